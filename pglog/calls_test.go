package pglog_test

import (
	"math"
	"slices"
	"testing"

	"paddock/api"
	"paddock/objects"
	"paddock/pglog"
)

// next: an entry that can come behind s, in the interval of the last one.
func next(s api.State) api.Entry {
	since, n := pglog.Head(s)
	return api.Entry{Since: since, N: n + 1, Op: api.Op{Client: 2, Seq: 1, Kind: api.OWrite, Obj: 3, Data: "next"}}
}

func TestAddPutsBehind(t *testing.T) {
	for length := range api.MaxLog {
		for _, since := range []uint32{0, 1, 30, api.MaxEpoch} {
			s := state(length)
			e := next(s)
			e.Since = max(e.Since, since)
			got, err := pglog.Add(s, e)
			want := state(length)
			want.Log = append(want.Log, e)
			if err != api.OK || !alike(got, want) || !pglog.Is(got) {
				t.Errorf("P7.2: Add to %d entries: %+v, %v; not %+v", length, got, err, want)
			}
		}
	}
	e := api.Entry{Since: 3, N: 1, Op: write(1, 1, "ab")}
	if got, err := pglog.Add(api.State{}, e); err != api.OK || !alike(got, api.State{Log: []api.Entry{e}}) {
		t.Errorf("P7.2: Add to the zero state: %+v, %v", got, err)
	}
}

func TestAddFoldsTheFirstOfMoreThanMaxLog(t *testing.T) {
	s := state(api.MaxLog)
	e := next(s)
	got, err := pglog.Add(s, e)
	done, _ := objects.Do(base(), s.Log[0].Op)
	want := api.State{Started: 9, Base: done, Tail: api.Entry{Since: 7, N: 41}, Log: append(slices.Clone(s.Log[1:]), e)}
	if err != api.OK || !alike(got, want) || done == base() {
		t.Errorf("P7.2: Add to a log of MaxLog entries: %+v, %v; not %+v", got, err, want)
	}
	if len(got.Log) != api.MaxLog || !pglog.Is(got) {
		t.Errorf("P7.2: Add to a log of MaxLog entries: %d entries, Is %v", len(got.Log), pglog.Is(got))
	}
}

// TestAddFoldsWhateverTheFirstOneDoes: an operation that is refused, or was seen, is folded as one that is done.
func TestAddFoldsWhateverTheFirstOneDoes(t *testing.T) {
	all := entries(0, len(ops()))
	for i := range all {
		l := slices.Clone(all[i:])
		for len(l) <= api.MaxLog {
			l = append(l, next(api.State{Tail: api.Entry{Since: l[len(l)-1].Since, N: l[len(l)-1].N}}))
		}
		s := api.State{Base: base(), Tail: api.Entry{Since: 2, N: uint32(i)}, Log: slices.Clone(l[:api.MaxLog])}
		got, err := pglog.Add(s, l[api.MaxLog])
		done, _ := objects.Do(base(), l[0].Op)
		want := api.State{Base: done, Tail: api.Entry{Since: l[0].Since, N: l[0].N}, Log: l[1 : api.MaxLog+1]}
		if err != api.OK || !alike(got, want) {
			t.Errorf("P7.2: Add folds %+v: %+v, %v; not %+v", l[0].Op, got, err, want)
		}
	}
}

// TestSevenEntries is the chapter's example.
func TestSevenEntries(t *testing.T) {
	var s api.State
	for n := range uint32(7) {
		var err api.Errno
		if s, err = pglog.Add(s, api.Entry{Since: n + 1, N: n + 1, Op: write(n+1, uint8(n), string(rune('a'+n)))}); err != api.OK {
			t.Fatalf("P7.2: Add of entry %d: %v", n+1, err)
		}
	}
	if len(s.Log) != 6 || s.Tail != (api.Entry{Since: 1, N: 1}) || s.Log[0].N != 2 || s.Base.Objs[2] != (api.Object{There: true, Data: "a"}) || s.Base.Last[0].Seq != 1 {
		t.Errorf("P7.2: seven entries: %+v", s)
	}
	if b := pglog.Fold(s); b.Objs[2].Data != "abcdefg" || b.Last[0].Seq != 7 {
		t.Errorf("P7.2: Fold of seven entries: %+v", b)
	}
}

func TestAddOfWhatCannotComeNext(t *testing.T) {
	for _, c := range []row{{"no entries", state(0)}, {"three entries", state(3)}, {"MaxLog entries", state(api.MaxLog)}} {
		fits := next(c.s)
		var wrong []api.Entry
		for _, n := range []uint32{0, 1, 40, fits.N - 2, fits.N - 1, fits.N + 1, fits.N + 2, fits.N + 256, fits.N + 1<<16, fits.N + 1<<31, math.MaxUint32} {
			wrong = append(wrong, api.Entry{Since: fits.Since, N: n, Op: fits.Op})
		}
		for _, since := range []uint32{0, fits.Since - 1, api.MaxEpoch + 1, fits.Since + 256, math.MaxUint32} {
			wrong = append(wrong, api.Entry{Since: since, N: fits.N, Op: fits.Op})
		}
		for _, o := range badOps() {
			wrong = append(wrong, api.Entry{Since: fits.Since, N: fits.N, Op: o})
		}
		for _, e := range append(wrong, api.Entry{}) {
			before := twin(c.s)
			if s, err := pglog.Add(c.s, e); err != api.ErrForm || !alike(s, api.State{}) {
				t.Errorf("P7.2: %s: Add of %+v: %+v, %v", c.name, e, s, err)
			}
			if !alike(c.s, before) {
				t.Errorf("rule 3: %s: a refused Add changed what was handed in", c.name)
			}
		}
		if _, err := pglog.Add(c.s, fits); err != api.OK {
			t.Errorf("P7.2: %s: Add of %+v: %v", c.name, fits, err)
		}
	}
}

// TestAddAtTheGreatestNumber: behind it none comes, also not the number 0.
func TestAddAtTheGreatestNumber(t *testing.T) {
	s := api.State{Tail: api.Entry{N: math.MaxUint32 - 1}}
	s, err := pglog.Add(s, api.Entry{N: math.MaxUint32, Op: write(1, 0, "a")})
	if err != api.OK || !pglog.Is(s) {
		t.Fatalf("P7.2: Add of the greatest number: %+v, %v", s, err)
	}
	folded, err := pglog.Tail(s, math.MaxUint32)
	if err != api.OK || folded.Tail != (api.Entry{N: math.MaxUint32}) || len(folded.Log) != 0 {
		t.Fatalf("P7.2: Tail up to the greatest number: %+v, %v", folded, err)
	}
	for _, x := range []api.State{s, folded} {
		for _, n := range []uint32{0, 1, math.MaxUint32 - 1, math.MaxUint32} {
			if got, err := pglog.Add(x, api.Entry{N: n, Op: write(2, 0, "a")}); err != api.ErrForm || !alike(got, api.State{}) {
				t.Errorf("P7.2: Add of %d behind the greatest number: %+v, %v", n, got, err)
			}
		}
	}
	for n, want := range map[uint32]bool{0: false, 1: false, math.MaxUint32 - 2: false, math.MaxUint32 - 1: true, math.MaxUint32: true} {
		if _, ok := pglog.Upto(s, n); ok != want {
			t.Errorf("P7.2: Upto %d at the greatest number: %v", n, ok)
		}
	}
}

func TestFold(t *testing.T) {
	if b := pglog.Fold(api.State{}); b != (api.Base{}) {
		t.Errorf("P7.2: Fold of the zero state: %+v", b)
	}
	for length := range api.MaxLog + 1 {
		s := state(length)
		if b, want := pglog.Fold(s), behind(base(), s.Log); b != want {
			t.Errorf("P7.2: Fold of %d entries: %+v, not %+v", length, b, want)
		}
	}
	if b := pglog.Fold(state(0)); b != base() {
		t.Errorf("P7.2: Fold of no entries: %+v", b)
	}
}

// TestCallsByANumber goes through all numbers from far below the log to far above it.
func TestCallsByANumber(t *testing.T) {
	for length := range api.MaxLog + 1 {
		numbers := []uint32{0, 1, 30, 40 + 256, 40 + 1<<16, 40 + 1<<31, 43 + 1<<31, math.MaxUint32}
		for n := uint32(38); n <= 49; n++ {
			numbers = append(numbers, n)
		}
		for _, n := range numbers {
			s := state(length)
			switch {
			case n < 40:
				checkOutside(t, s, n, api.ErrDiff)
			case n > 40+uint32(length):
				checkOutside(t, s, n, api.ErrNone)
			default:
				checkInside(t, s, n)
			}
			if !alike(s, state(length)) {
				t.Errorf("rule 3: calls at %d changed what was handed in", n)
			}
		}
	}
}

func checkOutside(t *testing.T, s api.State, n uint32, wanted api.Errno) {
	t.Helper()
	if b, ok := pglog.Upto(s, n); ok || b != (api.Base{}) {
		t.Errorf("P7.2: Upto %d of %d entries: %+v, %v", n, len(s.Log), b, ok)
	}
	if got, e := pglog.Cut(s, n); e != api.ErrNone || !alike(got, api.State{}) {
		t.Errorf("P7.2: Cut at %d of %d entries: %+v, %v", n, len(s.Log), got, e)
	}
	if got, e := pglog.Tail(s, n); e != wanted || !alike(got, api.State{}) {
		t.Errorf("P7.2: Tail up to %d of %d entries: %+v, %v; not %v", n, len(s.Log), got, e, wanted)
	}
	if x, ok := pglog.Find(s, n); ok || x != (api.Entry{}) {
		t.Errorf("P7.2: Find %d of %d entries: %+v, %v", n, len(s.Log), x, ok)
	}
}

func checkInside(t *testing.T, s api.State, n uint32) {
	t.Helper()
	k := n - 40
	b := behind(base(), s.Log[:k])
	if got, ok := pglog.Upto(s, n); !ok || got != b {
		t.Errorf("P7.2: Upto %d of %d entries: %+v, %v; not %+v", n, len(s.Log), got, ok, b)
	}
	cut := api.State{Started: 9, Base: base(), Tail: api.Entry{Since: 7, N: 40}, Log: s.Log[:k]}
	if got, e := pglog.Cut(s, n); e != api.OK || !alike(got, cut) || !pglog.Is(got) {
		t.Errorf("P7.2: Cut at %d of %d entries: %+v, %v; not %+v", n, len(s.Log), got, e, cut)
	}
	tail := api.State{Started: 9, Base: b, Tail: api.Entry{Since: 7, N: n}, Log: s.Log[k:]}
	if k > 0 {
		tail.Tail.Since = s.Log[k-1].Since
	}
	if got, e := pglog.Tail(s, n); e != api.OK || !alike(got, tail) || !pglog.Is(got) {
		t.Errorf("P7.2: Tail up to %d of %d entries: %+v, %v; not %+v", n, len(s.Log), got, e, tail)
	}
	x, ok := pglog.Find(s, n)
	if k == 0 && (ok || x != (api.Entry{})) || k > 0 && (!ok || x != s.Log[k-1]) {
		t.Errorf("P7.2: Find %d of %d entries: %+v, %v", n, len(s.Log), x, ok)
	}
}

func TestFindOfWhatWasFolded(t *testing.T) {
	s := state(api.MaxLog)
	first, last := s.Log[0], s.Log[api.MaxLog-1]
	e := next(s)
	if x, ok := pglog.Find(s, first.N); !ok || x != first {
		t.Errorf("P7.2: Find of the first entry: %+v, %v", x, ok)
	}
	if x, ok := pglog.Find(s, e.N); ok || x != (api.Entry{}) {
		t.Errorf("P7.2: Find of one that is not yet there: %+v, %v", x, ok)
	}
	s, _ = pglog.Add(s, e)
	if x, ok := pglog.Find(s, first.N); ok || x != (api.Entry{}) {
		t.Errorf("P7.2: Find of one that was folded: %+v, %v", x, ok)
	}
	for _, want := range []api.Entry{last, e} {
		if x, ok := pglog.Find(s, want.N); !ok || x != want {
			t.Errorf("P7.2: Find %d: %+v, %v", want.N, x, ok)
		}
	}
}

func TestTailInTwoGoesIsTailInOne(t *testing.T) {
	for length := range uint32(api.MaxLog + 1) {
		for n := uint32(40); n <= 40+length; n++ {
			for m := n; m <= 40+length; m++ {
				half, _ := pglog.Tail(state(int(length)), n)
				two, e := pglog.Tail(half, m)
				one, f := pglog.Tail(state(int(length)), m)
				if e != api.OK || f != api.OK || !alike(two, one) {
					t.Errorf("P7.2: Tail up to %d, then %d: %+v, %v; in one: %+v, %v", n, m, two, e, one, f)
				}
				if n < m {
					checkOutside(t, two, n, api.ErrDiff)
				}
			}
		}
	}
}

// bends: each makes another state of one with at least two entries, by one word alone.
func bends() []func(s *api.State) {
	l := []func(s *api.State){
		func(s *api.State) { s.Started++ }, func(s *api.State) { s.Tail.Since++ }, func(s *api.State) { s.Tail.N++ },
		func(s *api.State) { s.Tail.Op.Client++ }, func(s *api.State) { s.Tail.Op.Data += "a" },
		func(s *api.State) { s.Log = s.Log[:len(s.Log)-1] }, func(s *api.State) { s.Log = s.Log[1:] }, func(s *api.State) { s.Log = nil },
		func(s *api.State) { s.Log = append(s.Log, s.Log[len(s.Log)-1]) }, func(s *api.State) { s.Log = append(s.Log, api.Entry{}) },
		func(s *api.State) { slices.Reverse(s.Log) },
	}
	for obj := range api.Objects {
		l = append(l, func(s *api.State) { s.Base.Objs[obj].There = !s.Base.Objs[obj].There }, func(s *api.State) { s.Base.Objs[obj].Data += "\x00" })
		for key := range api.Attrs {
			l = append(l, func(s *api.State) { s.Base.Objs[obj].Attr[key] += "a" })
		}
	}
	for c := range api.Clients {
		l = append(l, func(s *api.State) { s.Base.Last[c].Seq++ }, func(s *api.State) { s.Base.Last[c].R.Code++ }, func(s *api.State) { s.Base.Last[c].R.Data += "a" })
	}
	for i := range 2 {
		l = append(l,
			func(s *api.State) { s.Log[i].Since++ }, func(s *api.State) { s.Log[i].N++ }, func(s *api.State) { s.Log[i].Op.Client++ }, func(s *api.State) { s.Log[i].Op.Seq++ },
			func(s *api.State) { s.Log[i].Op.Kind++ }, func(s *api.State) { s.Log[i].Op.Obj++ }, func(s *api.State) { s.Log[i].Op.At++ }, func(s *api.State) { s.Log[i].Op.Data += "a" },
		)
	}
	return l
}

func TestSameOfEachStateAndItself(t *testing.T) {
	for _, c := range append(good(), bad()...) {
		if !pglog.Same(c.s, c.s) || !pglog.Same(c.s, twin(c.s)) || !pglog.Same(twin(c.s), c.s) {
			t.Errorf("P7.2: %s: Same of it and itself: false", c.name)
		}
	}
	if !pglog.Same(api.State{}, api.State{Log: []api.Entry{}}) || !pglog.Same(api.State{Log: make([]api.Entry, 0, 4)}, api.State{}) {
		t.Error("rule 2: Same of a nil log and an empty one: false")
	}
	if !pglog.Same(state(2), api.State{Started: 9, Base: base(), Tail: api.Entry{Since: 7, N: 40}, Log: state(6).Log[:2]}) {
		t.Error("rule 3: Same looks at a log's spare room")
	}
}

func TestSameOfTwoThatPart(t *testing.T) {
	for _, length := range []int{2, 3, api.MaxLog, api.MaxLog + 1} {
		s := state(length)
		for i, bend := range bends() {
			other := bent(s, bend)
			if pglog.Same(s, other) || pglog.Same(other, s) {
				t.Errorf("P7.2: %d entries: Same of two that part, row %d: true", length, i)
			}
			if !pglog.Same(other, bent(s, bend)) {
				t.Errorf("P7.2: %d entries: Same of two that were made alike, row %d: false", length, i)
			}
		}
	}
	for i, a := range good()[2:] {
		for j, b := range good()[2:] {
			if pglog.Same(a.s, b.s) != alike(a.s, b.s) {
				t.Errorf("P7.2: Same of rows %d, %d: %v", i, j, !alike(a.s, b.s))
			}
		}
	}
}
