package place_test

import (
	"math"
	"slices"
	"testing"

	"paddock/api"
	"paddock/bits"
	"paddock/maps"
	"paddock/place"
)

type (
	weights = [api.Osds]int
	hosts   = [api.Osds]uint8
	lists   = [api.Groups][]int // one a group
)

func firstWeights() weights { return weights{8, 8, 8, 8, 8} }
func firstHosts() hosts     { return hosts{0, 1, 2, 3, 0} }
func ownHosts() hosts       { return hosts{0, 1, 2, 3, 4} }

// made: a map of these weights and hosts, all of them up.
func made(w weights, h hosts) api.Map {
	m := api.Map{Epoch: 1}
	for osd := range api.Osds {
		m.Osds[osd] = api.Osd{Up: true, Weight: w[osd], Host: h[osd]}
	}
	return m
}

// with: the first map with one thing changed.
func with(change func(m *api.Map)) api.Map {
	m := maps.First()
	change(&m)
	return m
}

// noMaps: what is past each of the limits of a map.
func noMaps() []api.Map {
	l := []api.Map{{}}
	for _, epoch := range []uint32{0, api.MaxEpoch + 1, 256 + 1, math.MaxUint32} {
		l = append(l, with(func(m *api.Map) { m.Epoch = epoch }))
	}
	for osd := range api.Osds {
		for _, weight := range []int{-1, math.MinInt, api.MaxWeight + 1, 256 + 8, math.MaxInt} {
			l = append(l, with(func(m *api.Map) { m.Osds[osd].Weight = weight }))
		}
		for _, host := range []uint8{8, 9, 255} {
			l = append(l, with(func(m *api.Map) { m.Osds[osd].Host = host }))
			// One that isn't in has a host too.
			l = append(l, with(func(m *api.Map) { m.Osds[osd].Weight, m.Osds[osd].Host = 0, host }))
		}
	}
	return l
}

// somePlacings calls with maps of few and many daemons, hosts and weights.
func somePlacings(call func(m api.Map)) {
	some := [...]int{0, 1, 5, api.MaxWeight}
	for _, h := range []hosts{
		firstHosts(),
		ownHosts(),
		{7, 6, 5, 4, 3},
		{0, 0, 0, 0, 0},
		{1, 0, 1, 0, 1},
		{0, 7, 7, 7, 7},
		{0, 0, 1, 1, 2},
	} {
		for _, a := range some {
			for _, b := range some {
				for _, c := range some {
					for _, d := range some {
						for _, e := range some {
							call(made(weights{a, b, c, d, e}, h))
						}
					}
				}
			}
		}
	}
}

func TestPick(t *testing.T) {
	for _, c := range []struct {
		name string
		w    weights
		h    hosts
		want lists
	}{
		{"the first map", firstWeights(), firstHosts(), lists{{4, 3, 2}, {2, 3, 0}, {4, 2, 3}, {3, 2, 4}}},
		{"each on its own host", firstWeights(), ownHosts(), lists{{4, 3, 2}, {2, 3, 0}, {4, 2, 0}, {3, 2, 4}}},
		{"all on one host", firstWeights(), hosts{5, 5, 5, 5, 5}, lists{{4}, {2}, {4}, {3}}},
		{"all on the last host", firstWeights(), hosts{7, 7, 7, 7, 7}, lists{{4}, {2}, {4}, {3}}},
		{"on two hosts", firstWeights(), hosts{0, 1, 0, 1, 0}, lists{{4, 3}, {2, 3}, {4, 3}, {3, 2}}},
		{"all but one on one host", firstWeights(), hosts{7, 7, 7, 0, 7}, lists{{4, 3}, {2, 3}, {4, 3}, {3, 2}}},
		{"all of the least weight", weights{1, 1, 1, 1, 1}, firstHosts(), lists{{4, 3, 2}, {2, 3, 0}, {4, 2, 3}, {3, 2, 4}}},
		{"all of the greatest weight", weights{16, 16, 16, 16, 16}, firstHosts(), lists{{4, 3, 2}, {2, 3, 0}, {4, 2, 3}, {3, 2, 4}}},
		{"the least and the greatest weight", weights{1, 16, 1, 16, 1}, firstHosts(), lists{{3, 1, 4}, {1, 3, 0}, {4, 3, 1}, {3, 1, 4}}},
		{"none in", weights{}, ownHosts(), lists{}},
		{"0 alone", weights{8, 0, 0, 0, 0}, firstHosts(), lists{{0}, {0}, {0}, {0}}},
		{"3 alone", weights{0, 0, 0, 1, 0}, firstHosts(), lists{{3}, {3}, {3}, {3}}},
		{"4 alone", weights{0, 0, 0, 0, 16}, firstHosts(), lists{{4}, {4}, {4}, {4}}},
		{"two in, on one host", weights{8, 0, 0, 0, 8}, firstHosts(), lists{{4}, {0}, {4}, {0}}},
		{"0 is out", weights{0, 8, 8, 8, 8}, firstHosts(), lists{{4, 3, 2}, {2, 3, 1}, {4, 2, 3}, {3, 2, 4}}},
		{"2 is out", weights{8, 8, 0, 8, 8}, firstHosts(), lists{{4, 3, 1}, {1, 4, 3}, {4, 3, 1}, {3, 0, 1}}},
		{"4 is out", weights{8, 8, 8, 8, 0}, firstHosts(), lists{{2, 3, 0}, {2, 3, 0}, {3, 2, 0}, {3, 2, 1}}},
	} {
		m := made(c.w, c.h)
		for group, want := range c.want {
			if got := place.Pick(m, uint8(group)); !slices.Equal(got, want) {
				t.Errorf("P4.1: Pick, %s, group %d: %v, not %v", c.name, group, got, want)
			}
		}
	}
}

func TestPickAtTheEndOfItsTries(t *testing.T) {
	for _, c := range []struct {
		name  string
		group uint8
		w     weights
		h     hosts
		want  []int
	}{
		{"r 1 finds none, r 2 does", 1, weights{3, 15, 2, 8, 15}, hosts{5, 3, 7, 3, 3}, []int{1, 0}},
		{"r 1 finds none, r 2 does, later", 3, weights{15, 3, 16, 3, 16}, hosts{0, 1, 0, 0, 0}, []int{0, 1}},
		{"r 2 finds none, though there is a third host", 1, weights{0, 1, 8, 16, 1}, firstHosts(), []int{2, 3}},
		{"r 1 and r 2 find none, though there is a second host", 2, weights{1, 1, 3, 16, 16}, hosts{1, 0, 0, 0, 0}, []int{4}},
		{"r 1 finds one at its last try", 1, weights{8, 3, 1, 2, 2}, hosts{0, 0, 0, 1, 0}, []int{2, 3}},
		{"r 2 finds one at its last try", 3, weights{15, 15, 1, 0, 2}, ownHosts(), []int{0, 1, 4}},
		{"r 2 would find one at one try more", 0, weights{8, 15, 0, 2, 1}, firstHosts(), []int{4, 1}},
		{"r 2 would find one at one try more, others", 0, weights{2, 16, 2, 2, 0}, hosts{6, 3, 1, 2, 4}, []int{1, 0}},
	} {
		if got := place.Pick(made(c.w, c.h), c.group); !slices.Equal(got, c.want) {
			t.Errorf("P4.1: Pick, %s: %v, not %v", c.name, got, c.want)
		}
	}
}

func TestPickOfManyMaps(t *testing.T) {
	var all []byte
	somePlacings(func(m api.Map) {
		for group := range uint8(api.Groups) {
			l := place.Pick(m, group)
			all = append(all, byte(len(l)))
			for _, osd := range l {
				all = append(all, byte(osd))
			}
		}
	})
	if sum := bits.Sum(all); sum != 12130240219028708559 {
		t.Errorf("P4.1: the sum of many lists: %d", sum)
	}
}

func TestPickOfWhatIsNoMap(t *testing.T) {
	for _, m := range noMaps() {
		for group := range uint8(api.Groups) {
			if got := place.Pick(m, group); len(got) > 0 {
				t.Errorf("P4.1: Pick(%v, %d): %v", m, group, got)
			}
		}
	}
}

func TestPickOfWhatIsNoGroup(t *testing.T) {
	for group := api.Groups; group < 256; group++ {
		for _, m := range []api.Map{maps.First(), made(firstWeights(), ownHosts()), {}} {
			if got := place.Pick(m, uint8(group)); len(got) > 0 {
				t.Errorf("P4.1: Pick(%v, %d): %v", m, group, got)
			}
		}
	}
}

func TestPickHangsOnWeightsAndHostsAlone(t *testing.T) {
	for group := range uint8(api.Groups) {
		want := place.Pick(maps.First(), group)
		for _, epoch := range []uint32{1, 2, 17, api.MaxEpoch} {
			for up := range 1 << api.Osds {
				m := with(func(m *api.Map) { m.Epoch = epoch; setUp(m, up) })
				if got := place.Pick(m, group); !slices.Equal(got, want) {
					t.Fatalf("P4.1: Pick(%v, %d): %v, not %v", m, group, got, want)
				}
			}
		}
	}
}

func TestDaemonsOfAGroupAreUnlikeAndOnUnlikeHosts(t *testing.T) {
	somePlacings(func(m api.Map) {
		in := maps.In(m)
		for group := range uint8(api.Groups) {
			l := place.Pick(m, group)
			if len(l) > api.Size || len(l) == 0 && len(in) > 0 {
				t.Fatalf("P4.1: Pick(%v, %d): %v", m, group, l)
			}
			for i, osd := range l {
				if !slices.Contains(in, osd) {
					t.Fatalf("P4.1: Pick(%v, %d): %v: %d isn't in", m, group, l, osd)
				}
				for _, other := range l[:i] {
					if osd == other || m.Osds[osd].Host == m.Osds[other].Host {
						t.Fatalf("P4.3: Pick(%v, %d): %v: %d beside %d", m, group, l, osd, other)
					}
				}
			}
		}
	})
}

func TestOfTheFirstMapEachGroupHasThree(t *testing.T) {
	for group := range uint8(api.Groups) {
		if got := place.Pick(maps.First(), group); len(got) != api.Size {
			t.Errorf("P4.1: Pick(First(), %d): %v", group, got)
		}
	}
}
