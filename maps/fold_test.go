package maps_test

import (
	"math"
	"slices"
	"testing"

	"paddock/api"
	"paddock/maps"
)

// row: so many increments, of all kinds and daemons.
func row(length int) []api.Inc {
	all := goodIncs()
	l := make([]api.Inc, length)
	for i := range l {
		l[i] = all[(i*37+11)%len(all)]
	}
	return l
}

func TestFold(t *testing.T) {
	for _, c := range []struct {
		name string
		l    []api.Inc
		want api.Map
	}{
		{"nil", nil, first()},
		{"none", []api.Inc{}, first()},
		{"one", []api.Inc{{Kind: api.IDown, Osd: 2}}, with(func(m *api.Map) { m.Epoch = 2; m.Osds[2].Up = false })},
		{"nothing, twice", []api.Inc{{Kind: api.INone}, {Kind: api.INone}}, with(func(m *api.Map) { m.Epoch = 3 })},
		{"down, up", []api.Inc{{Kind: api.IDown, Osd: 4}, {Kind: api.IUp, Osd: 4}}, with(func(m *api.Map) { m.Epoch = 3 })},
		{"up, down", []api.Inc{{Kind: api.IUp, Osd: 4}, {Kind: api.IDown, Osd: 4}}, with(func(m *api.Map) { m.Epoch = 3; m.Osds[4].Up = false })},
		{"the later weight", []api.Inc{{Kind: api.IWeight, Osd: 1, N: 16}, {Kind: api.IWeight, Osd: 1}, {Kind: api.IWeight, Osd: 1, N: 3}}, with(func(m *api.Map) { m.Epoch = 4; m.Osds[1].Weight = 3 })},
		{"several", []api.Inc{{Kind: api.IDown, Osd: 0}, {Kind: api.IWeight, Osd: 0}, {Kind: api.INone}, {Kind: api.IDown, Osd: 3}}, with(func(m *api.Map) { m.Epoch = 5; m.Osds[0] = api.Osd{}; m.Osds[3].Up = false })},
	} {
		if got, e := maps.Fold(c.l); got != c.want || e != api.OK {
			t.Errorf("P3.2: Fold, %s: %v, %v; not %v", c.name, got, e, c.want)
		}
	}
}

func TestAMapIsTheFoldOfItsIncrements(t *testing.T) {
	l := row(api.MaxEpoch - 1)
	m := first()
	for i, x := range l {
		next, e := maps.Apply(m, x)
		if e != api.OK || next.Epoch != uint32(i+2) {
			t.Fatalf("P3.1: Apply(%v, %v): %v, %v", m, x, next, e)
		}
		if got, e := maps.Fold(l[:i+1]); got != next || e != api.OK {
			t.Fatalf("P3.2: Fold of %v: %v, %v; not %v", l[:i+1], got, e, next)
		}
		m = next
	}
}

func TestFoldOfAllPairs(t *testing.T) {
	for _, x := range goodIncs() {
		for _, y := range goodIncs() {
			want := changed(changed(first(), x), y)
			if got, e := maps.Fold([]api.Inc{x, y}); got != want || e != api.OK {
				t.Fatalf("P3.2: Fold of %v, %v: %v, %v; not %v", x, y, got, e, want)
			}
		}
	}
}

func TestFoldToTheLastEpochAndPastIt(t *testing.T) {
	top, e := maps.Fold(row(api.MaxEpoch - 1))
	if e != api.OK || top.Epoch != api.MaxEpoch || !maps.Is(top) {
		t.Errorf("P3.2: Fold, to the last epoch: %v, %v", top, e)
	}
	for _, length := range []int{api.MaxEpoch, api.MaxEpoch + 1, 10 * api.MaxEpoch, 100000} {
		if got, e := maps.Fold(row(length)); got != (api.Map{}) || e != api.ErrMap {
			t.Errorf("P3.2: Fold of %d increments: %v, %v", length, got, e)
		}
	}
}

func TestFoldRefusesAWrongOneAnywhere(t *testing.T) {
	for _, length := range []int{1, 2, 7, api.MaxEpoch - 1} {
		for place := range length {
			for _, wrong := range badIncs() {
				l := row(length)
				l[place] = wrong
				if got, e := maps.Fold(l); got != (api.Map{}) || e != api.ErrMap {
					t.Fatalf("P3.1: Fold of %d increments, %v at %d: %v, %v", length, wrong, place, got, e)
				}
			}
		}
	}
}

func TestFoldLeavesTheListAndItsRoomAlone(t *testing.T) {
	whole := append(row(9), api.Inc{Kind: 77, Osd: 77, N: math.MinInt}, api.Inc{})
	before := slices.Clone(whole)
	got, e := maps.Fold(whole[:9])
	if want, _ := maps.Fold(row(9)); got != want || e != api.OK {
		t.Errorf("P3.2: Fold of a list with room behind it: %v, %v; not %v", got, e, want)
	}
	if _, e := maps.Fold(whole); e != api.ErrMap {
		t.Errorf("P3.1: Fold of what is no increment at the end: %v", e)
	}
	if !slices.Equal(whole, before) {
		t.Errorf("rule 3: Fold made %v of what was handed in", whole)
	}
	clear(whole)
	if again, _ := maps.Fold(before[:9]); again != got {
		t.Errorf("rule 6: Fold of the same: %v, not %v", again, got)
	}
}
