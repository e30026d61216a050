package merge_test

import (
	"math"
	"testing"

	"paddock/api"
	"paddock/merge"
)

func TestExtends(t *testing.T) {
	l := line()
	other := parted(3, later)
	for _, c := range []struct {
		name       string
		have, want api.State
		is         bool
	}{
		{"itself", state(4), state(4), true},
		{"itself, started later", state(4), started(state(4), 60), true},
		{"itself, started earlier", state(4), started(state(4), 0), true},
		{"itself, with some folded", state(4), piece(l, 2, 4), true},
		{"itself, with all folded", state(4), piece(l, 4, 4), true},
		{"itself, with less folded", piece(l, 2, 4), state(4), false},
		{"zero and zero", api.State{}, api.State{}, true},
		{"zero and a first entry", api.State{}, api.State{Log: []api.Entry{{N: 1, Op: write(1, 0, "a")}}}, true},
		{"a first entry and zero", api.State{Log: []api.Entry{{N: 1, Op: write(1, 0, "a")}}}, api.State{}, false},
		{"one more", state(4), state(5), true},
		{"one more, with some folded", state(4), piece(l, 2, 5), true},
		{"MaxLog more", state(4), piece(l, 4, 10), true},
		{"MaxLog more, folded at Head", state(4), piece(l, 4, 4), true},
		{"one more than MaxLog more: nothing shows it", state(4), piece(l, 5, 11), false},
		{"one less", state(4), state(3), false},
		{"all less", state(4), state(0), false},
		{"less, with some folded", state(4), piece(l, 2, 3), false},
		{"from an earlier entry on, as far", state(4), piece(other, 0, 4), false},
		{"from an earlier entry on, further", state(4), piece(other, 0, 6), false},
		{"from an earlier entry on, less far", state(6), piece(other, 0, 5), false},
		{"from the first entry on", state(4), piece(parted(0, retold), 0, 5), false},
		{"from Head on, another way", state(3), piece(other, 0, 6), true},
		{"from Head on, another way, with some folded", state(3), piece(other, 2, 6), true},
		{"another base, as far", state(4), bent(state(4), func(s *api.State) { s.Base.Last[2].Seq = 5 }), false},
		{"another base, further", state(4), bent(state(6), func(s *api.State) { s.Base.Objs[3].Data = "a" }), false},
		{"nothing shared", state(4), piece(l, 8, 12), false},
		{"at the greatest number", api.State{Tail: api.Entry{N: math.MaxUint32}}, api.State{Started: 3, Tail: api.Entry{N: math.MaxUint32}}, true},
	} {
		if is := merge.Extends(c.have, c.want); is != c.is {
			t.Errorf("P8.3: %s: Extends: %v", c.name, is)
		}
	}
}

func TestExtendsOfWhatIsNoState(t *testing.T) {
	for _, c := range bad() {
		for _, s := range []api.State{{}, state(0), state(3), started(c.s, 0), c.s} {
			if merge.Extends(c.s, s) || merge.Extends(s, c.s) {
				t.Errorf("P8.3: %s: Extends", c.name)
			}
		}
	}
}

// TestExtendsOfAllPairs: what goes on from a state keeps each of its entries; what doesn't, by entries, gives one up.
func TestExtendsOfAllPairs(t *testing.T) {
	l := pool()
	counts := map[bool]int{}
	for i, have := range l {
		for j, want := range l {
			head, d := place(have.Tail, have.Log, len(have.Log)), expected(have, want)
			is := place(want.Tail, want.Log, len(want.Log)).N >= head.N && (d.Kind == 0 || d.Kind == 1 && d.From == head.N)
			if merge.Extends(have, want) != is {
				t.Fatalf("P8.3: states %d, %d: Extends: %v", i, j, !is)
			}
			counts[is]++
		}
	}
	if counts[true] < 2*len(l) || counts[false] < 2*len(l) {
		t.Errorf("of %d states too few pairs: %v", len(l), counts)
	}
}

func TestBytes(t *testing.T) {
	l := line()
	all := api.Base{}
	for obj := range all.Objs {
		all.Objs[obj].There = true
	}
	for _, c := range []struct {
		name string
		d    api.Diff
		n    int
	}{
		{"nothing", api.Diff{}, 0},
		{"no entries", api.Diff{Kind: 1, From: 43, Log: []api.Entry{}, Whole: ends(state(3))}, 0},
		{"one entry", entriesDiff(43, l[3:4], ends(state(3))), 1},
		{"MaxLog entries", entriesDiff(40, l[:6], ends(state(3))), 6},
		{"many entries", entriesDiff(40, make([]api.Entry, 1000), api.State{}), 1000},
		{"entries whose spare room has more", entriesDiff(40, l[:2], ends(state(3))), 2},
		{"the zero state", api.Diff{Kind: 2}, 0},
		{"objects alone, some of which are there", api.Diff{Kind: 2, Whole: state(0)}, 4},
		{"clients' last ones alone", api.Diff{Kind: 2, Whole: api.State{Base: api.Base{Last: base().Last}}}, 0},
		{"objects that are there, with nothing in them", api.Diff{Kind: 2, Whole: api.State{Base: all}}, api.Objects},
		{"objects and entries", api.Diff{Kind: 2, Whole: state(5)}, 9},
		{"objects that aren't there, though they have bytes", api.Diff{Kind: 2, Whole: api.State{Base: api.Base{Objs: [api.Objects]api.Object{{Data: "a"}}}}}, 0},
		{"both logs, and objects", api.Diff{Kind: 1, Log: l[:3], Whole: state(5)}, 12},
		{"of Kind 0", api.Diff{Log: l[:3], Whole: state(5)}, 12},
		{"of no kind", api.Diff{Kind: -1, From: 99, Log: l[:3], Whole: state(5)}, 12},
	} {
		before := twinDiff(c.d)
		if n := merge.Bytes(c.d); n != c.n {
			t.Errorf("P8.3: %s: Bytes: %d, not %d", c.name, n, c.n)
		}
		if !alikeDiffs(c.d, before) {
			t.Errorf("rule 3: %s: Bytes changed what was handed in", c.name)
		}
	}
	for obj := range api.Objects {
		var d api.Diff
		d.Whole.Base.Objs[obj].There = true
		if n := merge.Bytes(d); n != 1 {
			t.Errorf("P8.3: object %d alone: Bytes: %d", obj, n)
		}
	}
}
