package place_test

import (
	"slices"
	"testing"

	"paddock/api"
	"paddock/maps"
	"paddock/place"
)

// setUp: daemon i is up where bit i of up is 1.
func setUp(m *api.Map, up int) {
	for osd := range m.Osds {
		m.Osds[osd].Up = up>>osd&1 == 1
	}
}

// firstLists: what the first map picks, written out.
func firstLists() lists {
	return lists{{4, 3, 2}, {2, 3, 0}, {4, 2, 3}, {3, 2, 4}}
}

func TestActing(t *testing.T) {
	for _, c := range []struct {
		name string
		up   int
		want lists
	}{
		{"all up", 0b11111, firstLists()},
		{"none up", 0, lists{}},
		{"0 alone", 0b00001, lists{nil, {0}, nil, nil}},
		{"1 alone, whom no group has", 0b00010, lists{}},
		{"2 alone", 0b00100, lists{{2}, {2}, {2}, {2}}},
		{"3 alone", 0b01000, lists{{3}, {3}, {3}, {3}}},
		{"4 alone", 0b10000, lists{{4}, nil, {4}, {4}}},
		{"2 is down", 0b11011, lists{{4, 3}, {3, 0}, {4, 3}, {3, 4}}},
		{"4 is down", 0b01111, lists{{3, 2}, {2, 3, 0}, {2, 3}, {3, 2}}},
		{"3 and 4 are down", 0b00111, lists{{2}, {2, 0}, {2}, {2}}},
	} {
		m := with(func(m *api.Map) { setUp(m, c.up) })
		for group, want := range c.want {
			if got := place.Acting(m, uint8(group)); !slices.Equal(got, want) {
				t.Errorf("P4.2: Acting, %s, group %d: %v, not %v", c.name, group, got, want)
			}
			first := -1
			if len(want) > 0 {
				first = want[0]
			}
			if got := place.Primary(m, uint8(group)); got != first {
				t.Errorf("P4.2: Primary, %s, group %d: %d, not %d", c.name, group, got, first)
			}
		}
	}
}

func TestActingOfAllThatMayBeUp(t *testing.T) {
	for up := range 1 << api.Osds {
		m := with(func(m *api.Map) { m.Epoch = api.MaxEpoch; setUp(m, up) })
		for group, l := range firstLists() {
			var want []int
			primary := -1
			for i := len(l) - 1; i >= 0; i-- {
				if up&(1<<l[i]) != 0 {
					want = append([]int{l[i]}, want...)
					primary = l[i]
				}
			}
			if got := place.Acting(m, uint8(group)); !slices.Equal(got, want) {
				t.Errorf("P4.2: Acting(%v, %d): %v, not %v", m, group, got, want)
			}
			if got := place.Primary(m, uint8(group)); got != primary {
				t.Errorf("P4.2: Primary(%v, %d): %d, not %d", m, group, got, primary)
			}
		}
	}
}

func TestNobodyActsWithoutWeight(t *testing.T) {
	m := made(weights{}, ownHosts())
	for group := range uint8(api.Groups) {
		if got := place.Acting(m, group); len(got) > 0 || place.Primary(m, group) != -1 {
			t.Errorf("P4.2: Acting of daemons without weight, group %d: %v, the first is %d", group, got, place.Primary(m, group))
		}
	}
}

func TestNobodyActsForWhatIsNoMapOrNoGroup(t *testing.T) {
	for _, m := range noMaps() {
		for group := range uint8(api.Groups) {
			if got := place.Acting(m, group); len(got) > 0 || place.Primary(m, group) != -1 {
				t.Errorf("P4.2: Acting(%v, %d): %v, the first is %d", m, group, got, place.Primary(m, group))
			}
		}
	}
	for group := api.Groups; group < 256; group++ {
		for _, m := range []api.Map{maps.First(), {}} {
			if got := place.Acting(m, uint8(group)); len(got) > 0 || place.Primary(m, uint8(group)) != -1 {
				t.Errorf("P4.2: Acting(%v, %d): %v, the first is %d", m, group, got, place.Primary(m, uint8(group)))
			}
		}
	}
}

// spoil writes over a list and all the room behind it, as whoever was given it may.
func spoil(l []int) {
	l = l[:cap(l)]
	for i := range l {
		l[i] = -7
	}
}

func TestListsAreNewMemory(t *testing.T) {
	m, want := maps.First(), firstLists()
	for group := range uint8(api.Groups) {
		pick, acting := place.Pick(m, group), place.Acting(m, group)
		spoil(place.Pick(m, group))
		spoil(place.Acting(m, group))
		if !slices.Equal(pick, want[group]) || !slices.Equal(acting, want[group]) {
			t.Errorf("rule 3: earlier lists of group %d became %v and %v", group, pick, acting)
		}
		spoil(pick)
		if !slices.Equal(acting, want[group]) || !slices.Equal(place.Pick(m, group), want[group]) || !slices.Equal(place.Acting(m, group), want[group]) {
			t.Errorf("rule 3: later lists of group %d are %v, %v and %v", group, acting, place.Pick(m, group), place.Acting(m, group))
		}
	}
}
