package merge_test

import (
	"math"
	"math/rand/v2"
	"slices"
	"testing"

	"paddock/api"
	"paddock/merge"
	"paddock/objects"
	"paddock/pglog"
)

// entriesDiff: one of Kind 1.
func entriesDiff(from uint32, log []api.Entry, whole api.State) api.Diff {
	return api.Diff{Kind: 1, From: from, Log: log, Whole: whole}
}

// applyRow: a state, a difference, and what comes of it.
type applyRow struct {
	name string
	have api.State
	d    api.Diff
	want api.State
}

func checkApply(t *testing.T, c applyRow) {
	t.Helper()
	have, d := twin(c.have), twinDiff(c.d)
	if got, e := merge.Apply(c.have, c.d); e != api.OK || !alike(got, c.want) || !pglog.Is(got) {
		t.Errorf("P8.2: %s: %+v, %v; not %+v", c.name, got, e, c.want)
	}
	checkAsBefore(t, c, have, d)
}

func checkRefused(t *testing.T, c applyRow) {
	t.Helper()
	have, d := twin(c.have), twinDiff(c.d)
	if got, e := merge.Apply(c.have, c.d); e != api.ErrDiff || !alike(got, api.State{}) {
		t.Errorf("P8.2: %s: %+v, %v; not ErrDiff and a zero state", c.name, got, e)
	}
	checkAsBefore(t, c, have, d)
}

func checkAsBefore(t *testing.T, c applyRow, have api.State, d api.Diff) {
	t.Helper()
	if !alike(c.have, have) || !alikeDiffs(c.d, d) {
		t.Errorf("rule 3: %s: what was handed in is another one", c.name)
	}
}

// TestApplyOfKind0 goes through all places of Whole's Tail.
func TestApplyOfKind0(t *testing.T) {
	l := line()
	for length := range api.MaxLog + 1 {
		for at := range length + 1 {
			have, want := piece(l, 1, 1+length), piece(l, 1+at, 1+length)
			for _, epoch := range []uint32{0, 9, api.MaxEpoch} {
				checkApply(t, applyRow{"Kind 0", have, api.Diff{Whole: started(ends(want), epoch)}, started(want, epoch)})
				checkApply(t, applyRow{"Kind 0, an empty Log", have, api.Diff{Log: []api.Entry{}, Whole: started(ends(want), epoch)}, started(want, epoch)})
			}
		}
	}
	checkApply(t, applyRow{"the zero difference of the zero state", api.State{}, api.Diff{}, api.State{}})
	checkApply(t, applyRow{"the zero difference of one that was started", api.State{Started: 8}, api.Diff{}, api.State{}})
}

// TestApplyOfKind1 goes through all places of From, all lengths of Log, and all places of Whole's Tail behind it.
func TestApplyOfKind1(t *testing.T) {
	for _, length := range []int{0, 1, 4, api.MaxLog} {
		for kept := range length + 1 {
			l := parted(1+kept, func(e *api.Entry) { later(e); retold(e) })
			for more := range len(l) - kept {
				end := 1 + kept + more
				for folded := max(1, end-api.MaxLog); folded <= end; folded++ {
					want := started(piece(l, folded, end), 33)
					d := entriesDiff(41+uint32(kept), slices.Clone(l[1+kept:end]), ends(want))
					checkApply(t, applyRow{"Kind 1", piece(line(), 1, 1+length), d, want})
				}
			}
		}
	}
}

func TestApplyOfKind1AtItsPlaces(t *testing.T) {
	l := line()
	have := piece(l, 2, 6)
	other := parted(4, later)
	for _, c := range []applyRow{
		{"From at Head's N, nothing behind it", have, entriesDiff(46, nil, ends(have)), have},
		{"From at Head's N", have, entriesDiff(46, l[6:8], ends(have)), piece(l, 2, 8)},
		{"From at Head's N, entries enough to fold", have, entriesDiff(46, l[6:9], ends(piece(l, 3, 9))), piece(l, 3, 9)},
		{"From below Head's N", have, entriesDiff(44, other[4:7], ends(have)), piece(other, 2, 7)},
		{"From below Head's N, nothing behind it", have, entriesDiff(45, nil, ends(have)), piece(l, 2, 5)},
		{"From at Tail's N", have, entriesDiff(42, parted(2, retold)[2:4], ends(have)), piece(parted(2, retold), 2, 4)},
		{"From at Tail's N, nothing behind it", have, entriesDiff(42, nil, ends(have)), piece(l, 2, 2)},
		{"Whole's Tail further on", have, entriesDiff(45, l[5:7], ends(piece(l, 4, 7))), piece(l, 4, 7)},
		{"Whole's Tail among what is added", have, entriesDiff(46, l[6:9], ends(piece(l, 8, 9))), piece(l, 8, 9)},
		{"Whole's Tail at Head", have, entriesDiff(44, other[4:7], ends(piece(other, 7, 7))), piece(other, 7, 7)},
		{"more than MaxLog entries", have, entriesDiff(46, l[6:14], ends(piece(l, 8, 14))), piece(l, 8, 14)},
		{"entries that are there already", have, entriesDiff(43, l[3:6], ends(have)), have},
		{"another Started", have, entriesDiff(46, l[6:7], started(ends(have), 60)), started(piece(l, 2, 7), 60)},
	} {
		checkApply(t, c)
	}
}

func TestApplyOfKind2(t *testing.T) {
	for _, have := range []api.State{{}, state(0), state(4), piece(line(), 6, 12)} {
		for i, whole := range pool() {
			checkApply(t, applyRow{"Kind 2", have, api.Diff{Kind: 2, Whole: whole}, whole})
			checkApply(t, applyRow{"Kind 2, an empty Log", have, api.Diff{Kind: 2, Log: []api.Entry{}, Whole: whole}, whole})
			checkRefused(t, applyRow{"Kind 2 with Log", have, api.Diff{Kind: 2, Log: line()[i%5 : i%5+1], Whole: whole}, api.State{}})
			checkRefused(t, applyRow{"Kind 2 with From", have, api.Diff{Kind: 2, From: uint32(i + 1), Whole: whole}, api.State{}})
		}
		for _, c := range bad() {
			checkRefused(t, applyRow{"Kind 2: " + c.name, have, api.Diff{Kind: 2, Whole: c.s}, api.State{}})
		}
	}
}

// TestApplyLooksAtStartedAndTailAlone: of Kinds 0 and 1 nothing else of Whole counts.
func TestApplyLooksAtStartedAndTailAlone(t *testing.T) {
	l := line()
	whole := bent(piece(l, 2, 5), func(s *api.State) { s.Base = base(); s.Tail.Op = write(1, 0, "a") })
	checkApply(t, applyRow{"Kind 0", state(4), api.Diff{Whole: whole}, piece(l, 2, 4)})
	checkApply(t, applyRow{"Kind 1", state(4), entriesDiff(43, l[3:7], whole), piece(l, 2, 7)})
}

func TestApplyToWhatIsNoState(t *testing.T) {
	for _, c := range bad() {
		for _, d := range []api.Diff{
			{}, {Whole: ends(c.s)}, {Whole: api.State{Tail: api.Entry{Since: c.s.Tail.Since, N: c.s.Tail.N}}},
			{Kind: 1}, entriesDiff(40, nil, ends(state(0))), entriesDiff(44, nil, ends(state(0))), entriesDiff(42, line()[2:4], ends(state(0))),
			{Kind: 2}, {Kind: 2, Whole: state(3)}, {Kind: 2, Whole: c.s},
		} {
			checkRefused(t, applyRow{c.name, c.s, d, api.State{}})
		}
	}
}

func TestApplyOfAKindThatIsNone(t *testing.T) {
	for _, kind := range []int{math.MinInt, -256, -2, -1, 3, 4, 256, 257, 1 << 32, 1<<32 + 1, math.MaxInt} {
		for _, have := range []api.State{{}, state(3)} {
			for _, d := range []api.Diff{{Whole: ends(have)}, {From: 43, Whole: ends(have)}, {From: 43, Log: line()[3:4], Whole: ends(have)}, {Whole: have}} {
				d.Kind = kind
				checkRefused(t, applyRow{"Kind is none", have, d, api.State{}})
			}
		}
	}
}

func TestApplyOfKind0WithMore(t *testing.T) {
	have := state(3)
	for _, from := range []uint32{1, 40, 43, math.MaxUint32} {
		checkRefused(t, applyRow{"Kind 0 with From", have, api.Diff{From: from, Whole: ends(have)}, api.State{}})
	}
	for _, log := range [][]api.Entry{line()[3:4], line()[3:6], {{}}} {
		checkRefused(t, applyRow{"Kind 0 with Log", have, api.Diff{Log: log, Whole: ends(have)}, api.State{}})
		checkRefused(t, applyRow{"Kind 0 with Log and From", have, api.Diff{From: 43, Log: log, Whole: ends(have)}, api.State{}})
	}
}

func TestApplyOfFromOutside(t *testing.T) {
	l := line()
	have := piece(l, 2, 6)
	for _, from := range []uint32{0, 1, 40, 41, 47, 48, 42 + 256, 42 + 1<<16, 44 + 1<<31, math.MaxUint32} {
		checkRefused(t, applyRow{"From outside", have, entriesDiff(from, nil, ends(have)), api.State{}})
		for at := range 9 {
			checkRefused(t, applyRow{"From outside, with entries", have, entriesDiff(from, l[at:at+2], ends(have)), api.State{}})
		}
	}
}

// TestApplyOfEntriesThatCannotCome bends each of three entries, one at a time.
func TestApplyOfEntriesThatCannotCome(t *testing.T) {
	have := state(3)
	for name, bend := range map[string]func(e *api.Entry){
		"leaves a number out":      func(e *api.Entry) { e.N++ },
		"goes back":                func(e *api.Entry) { e.N-- },
		"has the number 0":         func(e *api.Entry) { e.N = 0 },
		"has the greatest number":  func(e *api.Entry) { e.N = math.MaxUint32 },
		"goes back to interval 0":  func(e *api.Entry) { e.Since = 0 },
		"goes back by an interval": func(e *api.Entry) { e.Since = 11 },
		"is of an interval above":  func(e *api.Entry) { e.Since = api.MaxEpoch + 1 },
		"reads":                    func(e *api.Entry) { e.Op = api.Op{Client: 1, Seq: 30, Kind: api.ORead} },
		"is no operation":          func(e *api.Entry) { e.Op = api.Op{} },
		"has too many bytes":       func(e *api.Entry) { e.Op = write(30, 0, full()+"g") },
		"is of no object":          func(e *api.Entry) { e.Op.Obj = api.Objects },
		"is of no client":          func(e *api.Entry) { e.Op.Client = api.Clients + 1 },
	} {
		for at := range 3 {
			log := line()[3:6]
			bend(&log[at])
			checkRefused(t, applyRow{"an entry that " + name, have, entriesDiff(43, log, ends(have)), api.State{}})
		}
	}
	l := line()
	for name, log := range map[string][]api.Entry{
		"one twice": {l[3], l[3]}, "from the second on": l[4:6], "in turns": {l[4], l[3]}, "one left out": {l[3], l[5]}, "from an earlier one on": l[2:5],
	} {
		checkRefused(t, applyRow{"entries: " + name, have, entriesDiff(43, log, ends(have)), api.State{}})
	}
	checkApply(t, applyRow{"entries as they should be", have, entriesDiff(43, l[3:6], ends(have)), state(6)})
}

// TestApplyOfATailThatIsNone: Whole's Tail below the state's, above its Head, or of another interval.
func TestApplyOfATailThatIsNone(t *testing.T) {
	l := line()
	have := piece(l, 2, 6)
	at := func(since, n uint32) api.State {
		return api.State{Started: 9, Tail: api.Entry{Since: since, N: n}}
	}
	wrong := []api.State{
		{}, at(7, 41), at(12, 41), at(7, 40), at(12, 0), at(22, 47), at(27, 48), at(22, math.MaxUint32), at(12, 42+256), at(12, 42+1<<16),
		at(11, 42), at(13, 42), at(0, 42), at(11, 43), at(22, 43), at(17, 46), at(23, 46), at(math.MaxUint32, 46),
	}
	for _, whole := range wrong {
		checkRefused(t, applyRow{"Kind 0: no such Tail", have, api.Diff{Whole: whole}, api.State{}})
		checkRefused(t, applyRow{"Kind 1: no such Tail", have, entriesDiff(46, nil, whole), api.State{}})
		checkRefused(t, applyRow{"Kind 1: no such Tail, it is cut", have, entriesDiff(44, nil, whole), api.State{}})
	}
	for _, c := range []applyRow{
		{"Tail behind what stays", have, entriesDiff(44, nil, ends(piece(l, 5, 6))), api.State{}},
		{"Tail behind what is added", have, entriesDiff(44, l[4:5], ends(piece(l, 6, 6))), api.State{}},
		{"Tail at what was folded for room", have, entriesDiff(46, l[6:9], ends(have)), api.State{}},
		{"Tail of the entry that was there, not of the one that came", have, entriesDiff(43, parted(3, later)[3:6], ends(piece(l, 4, 6))), api.State{}},
	} {
		checkRefused(t, c)
	}
}

func TestApplyOfAStartedThatIsNone(t *testing.T) {
	have := state(3)
	for _, epoch := range []uint32{api.MaxEpoch + 1, 256, 1 << 16, math.MaxUint32} {
		whole := started(ends(have), epoch)
		checkRefused(t, applyRow{"Kind 0", have, api.Diff{Whole: whole}, api.State{}})
		checkRefused(t, applyRow{"Kind 1", have, entriesDiff(43, line()[3:4], whole), api.State{}})
		checkRefused(t, applyRow{"Kind 2", have, api.Diff{Kind: 2, Whole: started(have, epoch)}, api.State{}})
	}
}

// applied: what is to come of d, by going through the whole list that it makes; false, if it doesn't fit.
func applied(have api.State, d api.Diff) (api.State, bool) {
	if d.Kind < 0 || d.Kind > 2 || d.Kind != 1 && (len(d.Log) > 0 || d.From != 0) {
		return api.State{}, false
	}
	if d.Kind == 2 {
		return d.Whole, pglog.Is(d.Whole)
	}
	log := have.Log
	if d.Kind == 1 {
		at := 0
		for at <= len(have.Log) && place(have.Tail, have.Log, at).N != d.From {
			at++
		}
		if at > len(have.Log) {
			return api.State{}, false
		}
		log = append(slices.Clone(log[:at]), d.Log...)
	}
	for i, e := range log {
		ahead := place(have.Tail, log, i)
		if !objects.Writes(e.Op) || uint64(e.N) != uint64(ahead.N)+1 || e.Since < ahead.Since || e.Since > api.MaxEpoch {
			return api.State{}, false
		}
	}
	for k := max(0, len(log)-api.MaxLog); k <= len(log); k++ {
		if tail := place(have.Tail, log, k); tail.N == d.Whole.Tail.N && tail.Since == d.Whole.Tail.Since && d.Whole.Started <= api.MaxEpoch {
			return api.State{Started: d.Whole.Started, Base: behind(have.Base, log[:k]), Tail: tail, Log: log[k:]}, true
		}
	}
	return api.State{}, false
}

// disturbed: d, or one that is like it but for something.
func disturbed(r *rand.Rand, d api.Diff) api.Diff {
	d = twinDiff(d)
	switch r.IntN(12) {
	case 0:
		d.Kind = r.IntN(5) - 1
	case 1:
		d.From += uint32(r.IntN(5)) - 2
	case 2:
		d.Log = d.Log[:r.IntN(len(d.Log)+1)]
	case 3:
		d.Log = d.Log[r.IntN(len(d.Log)+1):]
	case 4:
		d.Log = append(d.Log, line()[r.IntN(14)])
	case 5:
		d.Whole.Tail.N += uint32(r.IntN(7)) - 3
	case 6:
		d.Whole.Tail.Since += uint32(r.IntN(3)) - 1
	case 7:
		d.Whole.Started = api.MaxEpoch + uint32(r.IntN(2))
	case 8:
		d.Whole.Tail = place(d.Whole.Tail, line(), r.IntN(15))
	}
	return d
}

// TestApplyOfAnything: differences of other states, and disturbed ones, held against what the chapter says.
func TestApplyOfAnything(t *testing.T) {
	r := rand.New(rand.NewPCG(8, 2))
	l := pool()
	counts := [2]int{}
	for range 60000 {
		have, d := l[r.IntN(len(l))], disturbed(r, merge.Make(l[r.IntN(len(l))], l[r.IntN(len(l))]))
		if r.IntN(3) == 0 {
			d = disturbed(r, merge.Make(have, l[r.IntN(len(l))]))
		}
		want, ok := applied(have, d)
		if ok {
			checkApply(t, applyRow{"anything", have, d, want})
			counts[d.Kind%2]++
		} else {
			checkRefused(t, applyRow{"anything", have, d, want})
		}
		if t.Failed() {
			t.FailNow()
		}
	}
	if slices.Min(counts[:]) < 1000 {
		t.Errorf("too few of them fit: %v", counts)
	}
}

// TestApplyOfManyEntries: Log may be far longer than a log.
func TestApplyOfManyEntries(t *testing.T) {
	var log []api.Entry
	for n := range uint32(5000) {
		log = append(log, api.Entry{Since: n / 100, N: n + 1, Op: write(n+1, uint8(n%10), "ab")})
	}
	tail := place(api.Entry{}, log, len(log)-2)
	want := api.State{Started: 50, Base: behind(api.Base{}, log[:len(log)-2]), Tail: tail, Log: log[len(log)-2:]}
	checkApply(t, applyRow{"many entries", api.State{}, entriesDiff(0, log, ends(want)), want})
	log[4000].N++
	checkRefused(t, applyRow{"many entries, one that can't come", api.State{}, entriesDiff(0, log, ends(want)), want})
}
