package maps_test

import (
	"math"
	"slices"
	"testing"

	"paddock/api"
	"paddock/maps"
)

func TestInAndUp(t *testing.T) {
	for _, c := range []struct {
		name   string
		m      api.Map
		in, up []int
	}{
		{"the first map", first(), []int{0, 1, 2, 3, 4}, []int{0, 1, 2, 3, 4}},
		{"the empty map", api.Map{}, nil, nil},
		{"none in", with(func(m *api.Map) {
			for i := range m.Osds {
				m.Osds[i].Weight = 0
			}
		}), nil, []int{0, 1, 2, 3, 4}},
		{"none up", with(func(m *api.Map) {
			for i := range m.Osds {
				m.Osds[i].Up = false
			}
		}), []int{0, 1, 2, 3, 4}, nil},
		{"one out, another down", with(func(m *api.Map) { m.Osds[0].Weight = 0; m.Osds[4].Up = false }), []int{1, 2, 3, 4}, []int{0, 1, 2, 3}},
		{"the least and the most of weights", with(func(m *api.Map) { m.Osds[1].Weight = 1; m.Osds[2].Weight = api.MaxWeight }), []int{0, 1, 2, 3, 4}, []int{0, 1, 2, 3, 4}},
		{"weights that no map has", with(func(m *api.Map) {
			m.Osds[0].Weight, m.Osds[1].Weight, m.Osds[2].Weight, m.Osds[3].Weight = -1, math.MinInt, api.MaxWeight+1, math.MaxInt
		}), []int{2, 3, 4}, []int{0, 1, 2, 3, 4}},
		{"an epoch and a host that no map has", with(func(m *api.Map) { m.Epoch = 0; m.Osds[3].Host = 8; m.Osds[2].Up = false }), []int{0, 1, 2, 3, 4}, []int{0, 1, 3, 4}},
	} {
		if got := maps.In(c.m); !slices.Equal(got, c.in) {
			t.Errorf("P3.1: In, %s: %v, not %v", c.name, got, c.in)
		}
		if got := maps.Up(c.m); !slices.Equal(got, c.up) {
			t.Errorf("P3.1: Up, %s: %v, not %v", c.name, got, c.up)
		}
	}
}

func TestInAndUpOfAllSets(t *testing.T) {
	for set := range 1 << (2 * api.Osds) {
		var m api.Map
		var in, up []int
		for i := range api.Osds {
			if set>>i&1 == 1 {
				m.Osds[i].Weight = 1
				in = append(in, i)
			}
			if set>>(api.Osds+i)&1 == 1 {
				m.Osds[i].Up = true
				up = append(up, i)
			}
		}
		if got := maps.In(m); !slices.Equal(got, in) {
			t.Fatalf("P3.1: In(%v): %v", m, got)
		}
		if got := maps.Up(m); !slices.Equal(got, up) {
			t.Fatalf("P3.1: Up(%v): %v", m, got)
		}
	}
}

// spoil writes over a list and all the room behind it, as whoever was given it may.
func spoil(l []int) {
	l = l[:cap(l)]
	for i := range l {
		l[i] = -7
	}
}

func TestListsAreNewMemory(t *testing.T) {
	all := []int{0, 1, 2, 3, 4}
	m := first()
	in, up := maps.In(m), maps.Up(m)
	spoil(maps.In(m))
	spoil(maps.Up(m))
	if !slices.Equal(in, all) || !slices.Equal(up, all) {
		t.Errorf("rule 3: earlier lists became %v and %v", in, up)
	}
	spoil(in)
	if !slices.Equal(up, all) || !slices.Equal(maps.In(m), all) || !slices.Equal(maps.Up(m), all) {
		t.Errorf("rule 3: later lists are %v, %v and %v", up, maps.In(m), maps.Up(m))
	}
}
