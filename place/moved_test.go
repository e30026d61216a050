package place_test

import (
	"testing"

	"paddock/api"
	"paddock/maps"
	"paddock/place"
)

// weighing: the first map with another weight of one daemon.
func weighing(osd, weight int) api.Map {
	return with(func(m *api.Map) { m.Osds[osd].Weight = weight })
}

func TestMoved(t *testing.T) {
	first := maps.First()
	for _, c := range []struct {
		name string
		a, b api.Map
		want int
	}{
		{"the same", first, first, 0},
		{"the same, none in", made(weights{}, ownHosts()), made(weights{}, firstHosts()), 0},
		{"epochs alone", first, with(func(m *api.Map) { m.Epoch = api.MaxEpoch }), 0},
		{"one is down", first, with(func(m *api.Map) { m.Osds[3].Up = false }), 0},
		{"all are down", first, with(func(m *api.Map) { setUp(m, 0) }), 0},
		{"weights, each as much as the others", made(weights{1, 1, 1, 1, 1}, firstHosts()), made(weights{16, 16, 16, 16, 16}, firstHosts()), 0},
		{"whom no group has is out", first, weighing(1, 0), 0},
		{"one group", first, weighing(0, 0), 1},
		{"one group, the last", first, weighing(4, 1), 1},
		{"two groups", first, weighing(2, 4), 2},
		{"three groups", first, weighing(4, 0), 3},
		{"every group, one of them in its order alone", first, weighing(2, 3), 4},
		{"every group", first, weighing(3, 0), 4},
		{"every group: none in", first, made(weights{}, firstHosts()), 4},
		{"every group: hosts alone", first, made(firstWeights(), hosts{6, 6, 6, 6, 6}), 4},
		{"one group: hosts alone", first, made(firstWeights(), ownHosts()), 1},
	} {
		if got := place.Moved(c.a, c.b); got != c.want {
			t.Errorf("P4.2: Moved, %s: %d, not %d", c.name, got, c.want)
		}
		if got := place.Moved(c.b, c.a); got != c.want {
			t.Errorf("P4.2: Moved, %s, the other way round: %d, not %d", c.name, got, c.want)
		}
	}
}

func TestMovedOfWhatIsNoMap(t *testing.T) {
	first, empty := maps.First(), made(weights{}, ownHosts())
	for _, m := range noMaps() {
		if to, from := place.Moved(first, m), place.Moved(m, first); to != api.Groups || from != api.Groups {
			t.Errorf("P4.2: Moved of the first map and %v: %d, %d", m, to, from)
		}
		if to, from := place.Moved(empty, m), place.Moved(m, empty); to != 0 || from != 0 {
			t.Errorf("P4.2: Moved of a map with none in and %v: %d, %d", m, to, from)
		}
		for _, other := range noMaps() {
			if got := place.Moved(m, other); got != 0 {
				t.Errorf("P4.2: Moved(%v, %v): %d", m, other, got)
			}
		}
	}
}
