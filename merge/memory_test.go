package merge_test

import (
	"slices"
	"testing"

	"paddock/api"
	"paddock/merge"
)

// roomy: the same list, lying in a greater one, with other entries ahead of it and in the room behind it; and all of that greater one.
func roomy(log []api.Entry) (piece, all []api.Entry) {
	other := api.Entry{Since: 1, N: 1, Op: write(1, 1, "other")}
	all = append([]api.Entry{other, other}, log...)
	all = append(all, other, other, other)
	return all[2 : 2+len(log)], all
}

// given keeps greater lists, and what lay in them when they were made.
type given struct{ lists, before [][]api.Entry }

func (g *given) room(log []api.Entry) []api.Entry {
	piece, all := roomy(log)
	g.lists = append(g.lists, all)
	g.before = append(g.before, slices.Clone(all))
	return piece
}

func (g *given) state(s api.State) api.State {
	s.Log = g.room(s.Log)
	return s
}

func (g *given) diff(d api.Diff) api.Diff {
	d.Log = g.room(d.Log)
	d.Whole = g.state(d.Whole)
	return d
}

func (g *given) check(t *testing.T, name string) {
	t.Helper()
	for i := range g.lists {
		if !slices.Equal(g.lists[i], g.before[i]) {
			t.Fatalf("rule 3: %s: list %d that was handed in, or the room around it, was turned", name, i)
		}
	}
}

// spoil writes over all of a list, its spare room too.
func spoil(l []api.Entry) {
	l = l[:cap(l)]
	for i := range l {
		l[i] = api.Entry{Since: 99, N: 99, Op: api.Op{Data: "spoilt"}}
	}
}

func spoilDiff(d api.Diff) {
	spoil(d.Log)
	spoil(d.Whole.Log)
}

// someStates: few, of which pairs are of each kind.
func someStates() []api.State {
	l := line()
	return []api.State{
		{}, state(0), state(3), started(state(3), 60), state(6), piece(l, 2, 6), piece(l, 3, 9), piece(l, 6, 6), piece(l, 8, 14),
		piece(parted(2, later), 0, 5), piece(parted(4, retold), 2, 8), bent(state(3), func(s *api.State) { s.Base.Last[2].Seq = 4 }),
	}
}

func TestMakeIsNewMemory(t *testing.T) {
	for _, a := range someStates() {
		for _, b := range someStates() {
			var g given
			have, want := g.state(a), g.state(b)
			one, other := merge.Make(have, want), merge.Make(have, want)
			g.check(t, "Make")
			kept := twinDiff(other)
			spoilDiff(one)
			g.check(t, "what is done with Make's answer")
			if !alikeDiffs(other, kept) {
				t.Fatalf("rule 3: two answers of Make share a log: of %+v\nand %+v", a, b)
			}
			spoil(other.Log)
			if !alike(other.Whole, kept.Whole) {
				t.Fatal("rule 3: two lists of one answer of Make share memory")
			}
			third := merge.Make(have, want)
			for _, l := range g.lists {
				spoil(l)
			}
			if !alikeDiffs(third, kept) {
				t.Fatalf("rule 3: Make kept what was handed in: of %+v\nand %+v", a, b)
			}
			merge.Extends(a, b)
		}
	}
}

func TestApplyIsNewMemory(t *testing.T) {
	for _, a := range someStates() {
		for _, b := range someStates() {
			var g given
			have, d := g.state(a), g.diff(expected(a, b))
			one, e := merge.Apply(have, d)
			other, f := merge.Apply(have, d)
			g.check(t, "Apply")
			if e != api.OK || f != api.OK || !alike(other, b) {
				t.Fatalf("P8.2: %v, %v: %+v, not %+v", e, f, other, b)
			}
			spoil(one.Log)
			g.check(t, "what is done with Apply's answer")
			if !alike(other, b) {
				t.Fatalf("rule 3: two answers of Apply share a log: of %+v\nand %+v", a, b)
			}
			for _, l := range g.lists {
				spoil(l)
			}
			if !alike(other, b) {
				t.Fatalf("rule 3: Apply kept what was handed in: of %+v\nand %+v", a, b)
			}
		}
	}
}

// TestRefusedCallsChangeNothing: neither the lists nor the room around them.
func TestRefusedCallsChangeNothing(t *testing.T) {
	for _, c := range bad() {
		for _, s := range someStates() {
			var g given
			wrong, right := g.state(c.s), g.state(s)
			made := merge.Make(wrong, right)
			merge.Make(right, wrong)
			merge.Extends(wrong, right)
			merge.Extends(right, wrong)
			for _, d := range []api.Diff{{Kind: 2, Whole: wrong}, {Kind: 3, Log: right.Log, Whole: right}, {Kind: 1, From: 99, Log: wrong.Log, Whole: right}, {Log: wrong.Log, From: 1}} {
				if got, e := merge.Apply(right, d); e != api.ErrDiff || !alike(got, api.State{}) {
					t.Errorf("P8.2: %s: %+v, %v", c.name, got, e)
				}
				merge.Bytes(d)
			}
			merge.Apply(wrong, api.Diff{Kind: 1, From: 43, Log: g.room(line()[3:5]), Whole: right})
			g.check(t, "what is refused: "+c.name)
			spoilDiff(made)
			g.check(t, "what is done with a zero answer")
		}
	}
}

// TestLeftLogsAreAsTheyWere: where entries are added behind a cut, what was cut off is not written over.
func TestLeftLogsAreAsTheyWere(t *testing.T) {
	other := parted(3, retold)
	for kept := 3; kept <= api.MaxLog; kept++ {
		var g given
		have := g.state(state(api.MaxLog))
		d := g.diff(api.Diff{Kind: 1, From: 43, Log: other[3:kept], Whole: ends(have)})
		got, e := merge.Apply(have, d)
		if e != api.OK || !alike(got, piece(other, 0, kept)) || !alike(have, state(api.MaxLog)) {
			t.Errorf("P8.2: %d entries behind a cut: %+v, %v", kept-3, got, e)
		}
		g.check(t, "Apply behind a cut")
		refused := g.diff(api.Diff{Kind: 1, From: 43, Log: append(other[3:kept:kept], api.Entry{}), Whole: ends(have)})
		if got, e := merge.Apply(have, refused); e != api.ErrDiff || !alike(got, api.State{}) {
			t.Errorf("P8.2: entries, the last of which can't come: %+v, %v", got, e)
		}
		g.check(t, "a refused Apply behind a cut")
	}
}
