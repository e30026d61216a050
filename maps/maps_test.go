package maps_test

import (
	"math"
	"testing"

	"paddock/api"
	"paddock/maps"
)

// first: the map of epoch 1, written out.
func first() api.Map {
	return api.Map{Epoch: 1, Osds: [api.Osds]api.Osd{
		{Up: true, Weight: 8, Host: 0},
		{Up: true, Weight: 8, Host: 1},
		{Up: true, Weight: 8, Host: 2},
		{Up: true, Weight: 8, Host: 3},
		{Up: true, Weight: 8, Host: 0},
	}}
}

// with: the first map with one thing changed.
func with(change func(m *api.Map)) api.Map {
	m := first()
	change(&m)
	return m
}

// goodMaps: maps at each of the limits, and within them.
func goodMaps() []api.Map {
	l := []api.Map{first()}
	for _, epoch := range []uint32{1, 2, 30, api.MaxEpoch - 1, api.MaxEpoch} {
		l = append(l, with(func(m *api.Map) { m.Epoch = epoch }))
	}
	for osd := range api.Osds {
		l = append(l, with(func(m *api.Map) { m.Osds[osd].Up = false }))
		for weight := 0; weight <= api.MaxWeight; weight++ {
			l = append(l, with(func(m *api.Map) { m.Osds[osd].Weight = weight }))
		}
		for host := range uint8(8) {
			l = append(l, with(func(m *api.Map) { m.Osds[osd].Host = host }))
		}
	}
	least, most := api.Map{Epoch: 1}, api.Map{Epoch: api.MaxEpoch}
	for osd := range api.Osds {
		most.Osds[osd] = api.Osd{Up: true, Weight: api.MaxWeight, Host: 7}
	}
	return append(l, least, most)
}

// badMaps: maps past each of the limits.
func badMaps() []api.Map {
	l := []api.Map{{}}
	for _, epoch := range []uint32{0, api.MaxEpoch + 1, api.MaxEpoch + 2, 256 + 1, 1 << 16, 1 << 31, math.MaxUint32} {
		l = append(l, with(func(m *api.Map) { m.Epoch = epoch }))
	}
	for osd := range api.Osds {
		for _, weight := range []int{-1, -2, -8, math.MinInt32, math.MinInt, api.MaxWeight + 1, api.MaxWeight + 2, 256, 1 << 32, math.MaxInt} {
			l = append(l, with(func(m *api.Map) { m.Osds[osd].Weight = weight }))
		}
		for host := 8; host < 256; host++ {
			l = append(l, with(func(m *api.Map) { m.Osds[osd].Host = uint8(host) }))
		}
		l = append(l, with(func(m *api.Map) { m.Osds[osd] = api.Osd{Weight: -1, Host: 8} }))
	}
	return l
}

// goodIncs: all increments that there are.
func goodIncs() []api.Inc {
	l := []api.Inc{{Kind: api.INone}}
	for osd := range uint8(api.Osds) {
		l = append(l, api.Inc{Kind: api.IUp, Osd: osd}, api.Inc{Kind: api.IDown, Osd: osd})
		for n := 0; n <= api.MaxWeight; n++ {
			l = append(l, api.Inc{Kind: api.IWeight, Osd: osd, N: n})
		}
	}
	return l
}

// badIncs: of each kind there is what it can't have, and kinds that there are not.
func badIncs() []api.Inc {
	l := []api.Inc{{}, {N: 1}, {Osd: 4}, {Kind: 5}, {Kind: 255}, {Kind: api.INone, Osd: 1}, {Kind: api.INone, Osd: 4}, {Kind: api.INone, Osd: 255}}
	for _, kind := range []uint8{api.IUp, api.IDown, api.IWeight} {
		for _, osd := range []uint8{api.Osds, api.Osds + 1, 128, 255} {
			l = append(l, api.Inc{Kind: kind, Osd: osd})
		}
	}
	for _, kind := range []uint8{api.IUp, api.IDown, api.INone} {
		for _, n := range []int{1, -1, 8, api.MaxWeight, math.MinInt, math.MaxInt, 1 << 32} {
			l = append(l, api.Inc{Kind: kind, N: n})
		}
	}
	for _, n := range []int{-1, math.MinInt, api.MaxWeight + 1, 256, 1 << 32, math.MaxInt} {
		l = append(l, api.Inc{Kind: api.IWeight, N: n}, api.Inc{Kind: api.IWeight, Osd: api.Osds - 1, N: n})
	}
	return l
}

func TestFirst(t *testing.T) {
	if got := maps.First(); got != first() {
		t.Errorf("P3.1: First: %v", got)
	}
	spoilt := maps.First()
	spoilt.Osds[0] = api.Osd{}
	if got := maps.First(); got != first() {
		t.Errorf("rule 3: First, once an earlier one was changed: %v", got)
	}
}

func TestIs(t *testing.T) {
	for _, m := range goodMaps() {
		if !maps.Is(m) {
			t.Errorf("P3.1: no map: %v", m)
		}
	}
	for _, m := range badMaps() {
		if maps.Is(m) {
			t.Errorf("P3.1: a map: %v", m)
		}
	}
}

func TestIsInc(t *testing.T) {
	for _, x := range goodIncs() {
		if !maps.IsInc(x) {
			t.Errorf("P3.1: no increment: %v", x)
		}
	}
	for _, x := range badIncs() {
		if maps.IsInc(x) {
			t.Errorf("P3.1: an increment: %v", x)
		}
	}
}

func TestIsIncTakesNoOtherOnes(t *testing.T) {
	listed := map[api.Inc]int{}
	for _, x := range goodIncs() {
		listed[x]++
	}
	for kind := range 256 {
		for osd := range 256 {
			for n := -2; n <= api.MaxWeight+2; n++ {
				x := api.Inc{Kind: uint8(kind), Osd: uint8(osd), N: n}
				if got, want := maps.IsInc(x), listed[x] == 1; got != want {
					t.Fatalf("P3.1: IsInc(%v): %v", x, got)
				}
			}
		}
	}
}

func TestApply(t *testing.T) {
	down := with(func(m *api.Map) { m.Osds[2].Up = false; m.Osds[4].Up = false })
	for _, c := range []struct {
		name string
		m    api.Map
		x    api.Inc
		want func(m *api.Map)
	}{
		{"down", first(), api.Inc{Kind: api.IDown, Osd: 2}, func(m *api.Map) { m.Osds[2].Up = false }},
		{"down, the first daemon", first(), api.Inc{Kind: api.IDown}, func(m *api.Map) { m.Osds[0].Up = false }},
		{"down, the last daemon", first(), api.Inc{Kind: api.IDown, Osd: 4}, func(m *api.Map) { m.Osds[4].Up = false }},
		{"down that is down", down, api.Inc{Kind: api.IDown, Osd: 2}, func(m *api.Map) {}},
		{"up", down, api.Inc{Kind: api.IUp, Osd: 2}, func(m *api.Map) { m.Osds[2].Up = true }},
		{"up, the last daemon", down, api.Inc{Kind: api.IUp, Osd: 4}, func(m *api.Map) { m.Osds[4].Up = true }},
		{"up that is up", down, api.Inc{Kind: api.IUp, Osd: 3}, func(m *api.Map) {}},
		{"weight", first(), api.Inc{Kind: api.IWeight, Osd: 3, N: 5}, func(m *api.Map) { m.Osds[3].Weight = 5 }},
		{"weight, none", first(), api.Inc{Kind: api.IWeight, Osd: 1}, func(m *api.Map) { m.Osds[1].Weight = 0 }},
		{"weight, the most", first(), api.Inc{Kind: api.IWeight, Osd: 4, N: api.MaxWeight}, func(m *api.Map) { m.Osds[4].Weight = api.MaxWeight }},
		{"weight that it has", first(), api.Inc{Kind: api.IWeight, Osd: 0, N: 8}, func(m *api.Map) {}},
		{"weight of one that is down", down, api.Inc{Kind: api.IWeight, Osd: 2, N: 1}, func(m *api.Map) { m.Osds[2].Weight = 1 }},
		{"nothing", first(), api.Inc{Kind: api.INone}, func(m *api.Map) {}},
		{"nothing, where some are down", down, api.Inc{Kind: api.INone}, func(m *api.Map) {}},
	} {
		want := c.m
		want.Epoch = 2
		c.want(&want)
		if got, e := maps.Apply(c.m, c.x); got != want || e != api.OK {
			t.Errorf("P3.1: Apply, %s: %v, %v; not %v", c.name, got, e, want)
		}
	}
}

func TestApplyOfAll(t *testing.T) {
	for _, m := range goodMaps() {
		for _, x := range goodIncs() {
			got, e := maps.Apply(m, x)
			if m.Epoch == api.MaxEpoch {
				if got != (api.Map{}) || e != api.ErrMap {
					t.Fatalf("P3.1: Apply(%v, %v): %v, %v", m, x, got, e)
				}
				continue
			}
			if want := changed(m, x); got != want || e != api.OK || !maps.Is(got) {
				t.Fatalf("P3.1: Apply(%v, %v): %v, %v; not %v", m, x, got, e, want)
			}
		}
	}
}

// changed: what an increment that there is makes of a map that there is.
func changed(m api.Map, x api.Inc) api.Map {
	next := api.Map{Epoch: m.Epoch + 1}
	for i, o := range m.Osds {
		if i == int(x.Osd) && x.Kind == api.IWeight {
			o.Weight = x.N
		}
		if i == int(x.Osd) && (x.Kind == api.IUp || x.Kind == api.IDown) {
			o.Up = x.Kind == api.IUp
		}
		next.Osds[i] = o
	}
	return next
}

func TestApplyAtTheLastEpochs(t *testing.T) {
	m := with(func(m *api.Map) { m.Epoch = api.MaxEpoch - 1 })
	top, e := maps.Apply(m, api.Inc{Kind: api.IDown, Osd: 4})
	if e != api.OK || top.Epoch != api.MaxEpoch || top.Osds[4].Up || !maps.Is(top) {
		t.Errorf("P3.1: Apply, to the last epoch: %v, %v", top, e)
	}
	if past, e := maps.Apply(top, api.Inc{Kind: api.INone}); past != (api.Map{}) || e != api.ErrMap {
		t.Errorf("P3.1: Apply, past the last epoch: %v, %v", past, e)
	}
}

func TestApplyRefuses(t *testing.T) {
	for _, m := range badMaps() {
		for _, x := range append(goodIncs(), api.Inc{}) {
			if got, e := maps.Apply(m, x); got != (api.Map{}) || e != api.ErrMap {
				t.Fatalf("P3.1: Apply(%v, %v): %v, %v", m, x, got, e)
			}
		}
	}
	for _, m := range append(goodMaps(), api.Map{}) {
		for _, x := range badIncs() {
			if got, e := maps.Apply(m, x); got != (api.Map{}) || e != api.ErrMap {
				t.Fatalf("P3.1: Apply(%v, %v): %v, %v", m, x, got, e)
			}
		}
	}
}
