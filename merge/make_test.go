package merge_test

import (
	"math"
	"slices"
	"testing"

	"paddock/api"
	"paddock/merge"
)

// ends: what Whole has of Kinds 0 and 1.
func ends(s api.State) api.State {
	return api.State{Started: s.Started, Tail: s.Tail}
}

// expected: what Make is to tell of two states, gone through place by place.
func expected(have, want api.State) api.Diff {
	if alike(started(have, want.Started), want) {
		return api.Diff{Whole: ends(want)}
	}
	for at := range len(have.Log) + 1 {
		if place(have.Tail, have.Log, at) != want.Tail || behind(have.Base, have.Log[:at]) != want.Base {
			continue
		}
		rest := have.Log[at:]
		k := min(len(rest), len(want.Log))
		for !slices.Equal(rest[:k], want.Log[:k]) {
			k--
		}
		return api.Diff{Kind: 1, From: want.Tail.N + uint32(k), Log: want.Log[k:], Whole: ends(want)}
	}
	return api.Diff{Kind: 2, Whole: want}
}

// makeRow: two states, and what Make tells: its kind, From, and how many of want's last entries Log is.
type makeRow struct {
	name       string
	have, want api.State
	kind       int
	from       uint32
	log        int
}

func checkMake(t *testing.T, c makeRow) {
	t.Helper()
	wanted := api.Diff{Kind: c.kind, From: c.from, Log: c.want.Log[len(c.want.Log)-c.log:], Whole: ends(c.want)}
	if c.kind == 2 {
		wanted.Whole = c.want
	}
	if d := merge.Make(c.have, c.want); !alikeDiffs(d, wanted) {
		t.Errorf("P8.1: %s: %+v, not %+v", c.name, d, wanted)
	}
}

func TestMakeOfTheSame(t *testing.T) {
	for i, s := range pool() {
		checkMake(t, makeRow{name: "state and itself", have: s, want: twin(s)})
		for _, epoch := range []uint32{0, 1, api.MaxEpoch} {
			checkMake(t, makeRow{name: "same but for Started", have: s, want: started(s, epoch)})
			if d := merge.Make(started(s, epoch), s); d.Kind != 0 || d.Whole.Started != s.Started {
				t.Errorf("P8.1: state %d: Kind %d, Started %d", i, d.Kind, d.Whole.Started)
			}
		}
	}
}

func TestMakeOfMoreAndLess(t *testing.T) {
	l := line()
	for _, c := range []makeRow{
		{"one entry more than none", state(0), state(1), 1, 40, 1},
		{"one entry more", state(3), state(4), 1, 43, 1},
		{"one entry more, to MaxLog", state(5), state(6), 1, 45, 1},
		{"many more", state(2), state(6), 1, 42, 4},
		{"MaxLog more than none", state(0), state(6), 1, 40, 6},
		{"one entry more than MaxLog: the first one is folded", state(6), piece(l, 1, 7), 1, 46, 1},
		{"MaxLog more: all that was is folded", state(3), piece(l, 3, 9), 1, 43, 6},
		{"MaxLog more than MaxLog", state(6), piece(l, 6, 12), 1, 46, 6},
		{"more than MaxLog more", state(3), piece(l, 4, 10), 2, 0, 0},
		{"more than MaxLog more than MaxLog", state(6), piece(l, 7, 13), 2, 0, 0},
		{"one entry less", state(4), state(3), 1, 43, 0},
		{"many less", state(6), state(1), 1, 41, 0},
		{"all less", state(6), state(0), 1, 40, 0},
		{"less, and folded", state(6), piece(l, 2, 4), 1, 44, 0},
		{"more, and Started is another", state(3), started(state(4), 60), 1, 43, 1},
	} {
		checkMake(t, c)
	}
}

func TestMakeAtEachTail(t *testing.T) {
	l := line()
	for _, c := range []makeRow{
		{"at have's Tail", piece(l, 2, 6), piece(l, 2, 8), 1, 46, 2},
		{"at have's Tail, nothing behind it", piece(l, 2, 6), piece(l, 2, 2), 1, 42, 0},
		{"at the first entry", piece(l, 2, 6), piece(l, 3, 8), 1, 46, 2},
		{"at an entry, all of it the same", piece(l, 2, 6), piece(l, 4, 6), 1, 46, 0},
		{"at have's Head", piece(l, 2, 6), piece(l, 6, 8), 1, 46, 2},
		{"at have's Head, nothing behind it", piece(l, 2, 6), piece(l, 6, 6), 1, 46, 0},
		{"at have's Head, which is its Tail", piece(l, 6, 6), piece(l, 6, 9), 1, 46, 3},
		{"ahead of have's Tail", piece(l, 2, 6), piece(l, 1, 6), 2, 0, 0},
		{"ahead of have's Tail, nothing behind it", piece(l, 2, 6), piece(l, 0, 0), 2, 0, 0},
		{"ahead of have's Tail, which is its Head", piece(l, 6, 6), piece(l, 5, 9), 2, 0, 0},
		{"behind have's Head", piece(l, 2, 6), piece(l, 7, 9), 2, 0, 0},
		{"behind have's Head, nothing behind it", piece(l, 2, 6), piece(l, 7, 7), 2, 0, 0},
		{"far behind have's Head", state(0), piece(l, 8, 14), 2, 0, 0},
	} {
		checkMake(t, c)
	}
}

// TestMakeOfAnotherInterval: a number alone is no place.
func TestMakeOfAnotherInterval(t *testing.T) {
	l := line()
	at := func(s api.State, since uint32) api.State {
		return bent(s, func(s *api.State) { s.Tail.Since = since })
	}
	for _, c := range []makeRow{
		{"Tail at have's Tail, of an earlier interval", state(3), at(state(4), 6), 2, 0, 0},
		{"Tail at have's Tail, of a later interval", at(state(3), 6), state(4), 2, 0, 0},
		{"Tail at an entry, of a later interval", state(5), piece(parted(2, later), 3, 6), 2, 0, 0},
		{"Tail at an entry, of an earlier interval", piece(parted(2, later), 0, 5), piece(l, 3, 6), 2, 0, 0},
		{"Tail at have's Head, of a later interval", state(3), piece(parted(2, later), 3, 6), 2, 0, 0},
		{"Tail at an entry ahead of which intervals part", bent(state(5), func(s *api.State) { s.Log[1].Since = 7 }), piece(l, 3, 6), 1, 45, 1},
		{"another interval's entry behind Tail", state(5), piece(parted(2, later), 0, 5), 1, 42, 3},
	} {
		checkMake(t, c)
	}
}

func TestMakeWhereLogsPart(t *testing.T) {
	l := line()
	for name, bend := range map[string]func(e *api.Entry){
		"Since": later, "Obj": retold,
		"Client": func(e *api.Entry) { e.Op.Client = e.Op.Client%api.Clients + 1 },
		"Seq":    func(e *api.Entry) { e.Op.Seq++ },
		"Kind": func(e *api.Entry) {
			e.Op = api.Op{Client: e.Op.Client, Seq: e.Op.Seq, Kind: e.Op.Kind%2 + api.OWrite, Obj: e.Op.Obj}
		},
		"Op": func(e *api.Entry) { e.Op = write(e.N, 15, "other") },
	} {
		for _, c := range []makeRow{
			{"at the first entry behind Tail", state(4), piece(parted(0, bend), 0, 4), 1, 40, 4},
			{"at the first entry of all", state(1), piece(parted(0, bend), 0, 1), 1, 40, 1},
			{"at the first entry behind a Tail further on", state(5), piece(parted(2, bend), 2, 7), 1, 42, 5},
			{"at a later one", state(6), piece(parted(3, bend), 0, 5), 1, 43, 2},
			{"at a later one behind a Tail further on", state(6), piece(parted(4, bend), 2, 8), 1, 44, 4},
			{"at the last one", state(6), piece(parted(5, bend), 0, 6), 1, 45, 1},
			{"at the last one of want, with more in have", state(6), piece(parted(3, bend), 0, 4), 1, 43, 1},
			{"at the last one of have, with more in want", state(4), piece(parted(3, bend), 1, 7), 1, 43, 4},
			{"behind the last one of have", state(4), piece(parted(4, bend), 0, 6), 1, 44, 2},
			{"ahead of Tail, which is folded", state(6), piece(parted(1, bend), 4, 8), 2, 0, 0},
			{"at Tail, which is folded", piece(l, 1, 7), piece(parted(3, bend), 4, 8), 2, 0, 0},
		} {
			c.name = name + " parts " + c.name
			checkMake(t, c)
		}
	}
}

// TestMakeOfEntriesThatMeetAgain: behind the first that is unlike nothing stays, though later ones are alike.
func TestMakeOfEntriesThatMeetAgain(t *testing.T) {
	for at := range api.MaxLog {
		want := bent(state(api.MaxLog), func(s *api.State) { s.Log[at].Op = write(50, 0, "other") })
		checkMake(t, makeRow{"one entry is unlike", state(api.MaxLog), want, 1, 40 + uint32(at), api.MaxLog - at})
	}
}

// TestMakeOfAnotherBase: where something is unlike that was folded, entries don't help.
func TestMakeOfAnotherBase(t *testing.T) {
	l := line()
	for _, bend := range baseBends() {
		for _, want := range []api.State{piece(l, 0, 3), piece(l, 0, 5), piece(l, 0, 0), piece(l, 1, 5), piece(l, 3, 5), piece(l, 4, 4)} {
			if d := merge.Make(state(4), want); d.Kind != 1 {
				t.Errorf("P8.1: base of have: Kind %d", d.Kind)
			}
			other := bent(want, func(s *api.State) { bend(&s.Base) })
			checkMake(t, makeRow{"another base of want", state(4), other, 2, 0, 0})
			if have := bent(state(4), func(s *api.State) { bend(&s.Base) }); want.Tail == have.Tail {
				checkMake(t, makeRow{"another base of have", have, want, 2, 0, 0})
			}
		}
	}
	checkMake(t, makeRow{"have's own base, not that up to want's Tail", state(4), bent(piece(l, 2, 5), func(s *api.State) { s.Base = base() }), 2, 0, 0})
	checkMake(t, makeRow{"the base behind all of have", state(4), bent(piece(l, 2, 5), func(s *api.State) { s.Base = behind(base(), l[:4]) }), 2, 0, 0})
}

func TestMakeOfTheZeroState(t *testing.T) {
	first := api.State{Started: 3, Log: []api.Entry{{Since: 1, N: 1, Op: write(1, 0, "a")}, {Since: 1, N: 2, Op: write(2, 0, "b")}}}
	folded := api.State{Base: behind(api.Base{}, first.Log), Tail: api.Entry{Since: 1, N: 2}}
	for _, c := range []makeRow{
		{"zero and zero", api.State{}, api.State{}, 0, 0, 0},
		{"zero and an empty log", api.State{}, api.State{Log: []api.Entry{}}, 0, 0, 0},
		{"zero and one that was started", api.State{}, api.State{Started: 60}, 0, 0, 0},
		{"zero and the first entries", api.State{}, first, 1, 0, 2},
		{"the first entries and zero", first, api.State{}, 1, 0, 0},
		{"zero and what was folded", api.State{}, folded, 2, 0, 0},
		{"what was folded and zero", folded, api.State{}, 2, 0, 0},
		{"zero and a base", api.State{}, api.State{Base: base()}, 2, 0, 0},
		{"a base and zero", api.State{Base: base()}, api.State{}, 2, 0, 0},
	} {
		checkMake(t, c)
	}
}

func TestMakeAtTheGreatestNumber(t *testing.T) {
	const top = math.MaxUint32
	none := api.State{Tail: api.Entry{N: top - 1}}
	one := bent(none, func(s *api.State) { s.Log = []api.Entry{{N: top, Op: write(1, 0, "a")}} })
	other := bent(none, func(s *api.State) { s.Log = []api.Entry{{N: top, Op: write(1, 0, "b")}} })
	folded := api.State{Base: behind(api.Base{}, one.Log), Tail: api.Entry{N: top}}
	for _, c := range []makeRow{
		{"the greatest number more", none, one, 1, top - 1, 1},
		{"the greatest number less", one, none, 1, top - 1, 0},
		{"unlike at the greatest number", one, other, 1, top - 1, 1},
		{"folded at the greatest number", one, folded, 1, top, 0},
		{"another one folded there", other, folded, 2, 0, 0},
		{"not there yet", none, folded, 2, 0, 0},
	} {
		checkMake(t, c)
	}
}

// TestMakeOfAllPairs holds Make against what the chapter says, place by place.
func TestMakeOfAllPairs(t *testing.T) {
	l := pool()
	kinds := [3]int{}
	for i, have := range l {
		for j, want := range l {
			d, wanted := merge.Make(have, want), expected(have, want)
			if !alikeDiffs(d, wanted) {
				t.Fatalf("P8.1: states %d, %d: %+v, not %+v", i, j, d, wanted)
			}
			kinds[wanted.Kind]++
		}
	}
	if slices.Min(kinds[:]) < len(l) {
		t.Errorf("of %d states too few pairs of a kind: %v", len(l), kinds)
	}
}

func TestMakeOfWhatIsNoState(t *testing.T) {
	for _, c := range bad() {
		for _, s := range []api.State{{}, state(0), state(3), state(6), c.s, started(c.s, 0)} {
			if d := merge.Make(c.s, s); !alikeDiffs(d, api.Diff{}) {
				t.Errorf("P8.1: %s, on have's side: %+v", c.name, d)
			}
			if d := merge.Make(s, c.s); !alikeDiffs(d, api.Diff{}) {
				t.Errorf("P8.1: %s, on want's side: %+v", c.name, d)
			}
		}
	}
}
