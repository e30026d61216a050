package straw_test

import (
	"math"
	"slices"
	"testing"

	"paddock/api"
	"paddock/bits"
	"paddock/straw"
)

func TestStraw(t *testing.T) {
	for _, c := range []struct {
		h      uint32
		weight int
		want   int64
	}{
		{0, 1, -1 << 32},
		{0, 3, -1431655765},
		{0, api.MaxWeight, -268435456},
		{1, 1, -4026531840},
		{1, 5, -805306368},
		{999, 1, -1619800064},
		{999, 2, -809900032},
		{999, 15, -107986670},
		{32767, 1, -268435456},
		{65534, 1, -8192},
		{65534, 7, -1170},
		{65534, api.MaxWeight, -512},
		{65535, 1, 0},
		{65535, api.MaxWeight, 0},
		{65536, 1, -1 << 32},
		{0x12345678, 9, -46703047},
		{math.MaxUint32 - 1, 3, -2730},
		{math.MaxUint32, 3, 0},
	} {
		if got := straw.Straw(c.h, c.weight); got != c.want {
			t.Errorf("P2.2: Straw(%d, %d): %d, not %d", c.h, c.weight, got, c.want)
		}
	}
}

func TestStrawHoldsItsWeight(t *testing.T) {
	for _, h := range []uint32{0, 1, 999, 65534, 65535, 0x12345678} {
		for _, weight := range []int{0, -1, -16, math.MinInt} {
			if got, want := straw.Straw(h, weight), straw.Straw(h, 1); got != want {
				t.Errorf("P2.2: Straw(%d, %d): %d, not %d, that of weight 1", h, weight, got, want)
			}
		}
		for _, weight := range []int{api.MaxWeight + 1, api.MaxWeight + 2, 1 << 32, math.MaxInt} {
			if got, want := straw.Straw(h, weight), straw.Straw(h, api.MaxWeight); got != want {
				t.Errorf("P2.2: Straw(%d, %d): %d, not %d, that of the greatest weight", h, weight, got, want)
			}
		}
	}
}

func TestDraw(t *testing.T) {
	for _, c := range []struct {
		group            uint8
		osd, try, weight int
		want             int64
	}{
		{0, 0, 0, 1, -4294967296},
		{1, 0, 0, 1, -390406144},
		{0, 1, 0, 1, -858591232},
		{0, 0, 1, 1, -89501696},
		{2, 1, 7, 5, -26624819},
		{3, 4, 19, 1, -129667072},
		{3, 4, 19, api.MaxWeight, -8104192},
		{3, 4, 19, api.MaxWeight + 1, -8104192},
		{3, 4, 19, 0, -129667072},
		{255, -1, -1, 2, -442830848},
		{255, math.MaxUint32, math.MaxUint32, 2, -442830848},
		{0, 1<<32 + 1, 0, 1, -858591232},
		{1, math.MinInt64, math.MaxInt64, 4, -126328832},
	} {
		if got := straw.Draw(c.group, c.osd, c.try, c.weight); got != c.want {
			t.Errorf("P2.2: Draw(%d, %d, %d, %d): %d, not %d", c.group, c.osd, c.try, c.weight, got, c.want)
		}
	}
}

func TestDrawIsTheStrawOfItsHash(t *testing.T) {
	for group := range uint8(api.Groups) {
		for osd := range api.Osds {
			for try := range api.Tries {
				weight := 1 + (osd+try)%api.MaxWeight
				want := straw.Straw(bits.Hash(uint32(group), uint32(osd), uint32(try)), weight)
				if got := straw.Draw(group, osd, try, weight); got != want {
					t.Fatalf("P2.2: Draw(%d, %d, %d, %d): %d, not %d", group, osd, try, weight, got, want)
				}
			}
		}
	}
}

func TestBest(t *testing.T) {
	for _, c := range []struct {
		name string
		l    []int64
		want int
	}{
		{"nil", nil, -1},
		{"none", []int64{}, -1},
		{"one", []int64{-5}, 0},
		{"the least number there is", []int64{math.MinInt64}, 0},
		{"the first", []int64{-1, -2, -3}, 0},
		{"the middle", []int64{-7, 0, -3}, 1},
		{"the last", []int64{-9, -8, -7}, 2},
		{"the first of two", []int64{-5, -3, -3}, 1},
		{"the first of all", []int64{0, 0, 0}, 0},
		{"the first of several, far from each other", []int64{3, 7, 2, 7, 1, 7}, 1},
		{"far from each other", []int64{math.MinInt64, math.MaxInt64, 0}, 1},
	} {
		if got := straw.Best(c.l); got != c.want {
			t.Errorf("P2.2: Best, %s: %d, not %d", c.name, got, c.want)
		}
	}
}

func TestBestLeavesTheListAndItsRoomAlone(t *testing.T) {
	whole := []int64{-3, -1, -2, 9, 8}
	if got := straw.Best(whole[:3]); got != 1 {
		t.Errorf("P2.2: Best of three: %d, not 1", got)
	}
	if !slices.Equal(whole, []int64{-3, -1, -2, 9, 8}) {
		t.Errorf("rule 3: Best made %v of what was handed in", whole)
	}
}

func TestWhoWeighsMoreDrawsLongerStraws(t *testing.T) {
	for h := range uint32(1 << 16) {
		for weight := 1; weight < api.MaxWeight; weight++ {
			light, heavy := straw.Straw(h, weight), straw.Straw(h, weight+1)
			// The longest straw there is can't be longer.
			if heavy <= light && heavy != 0 {
				t.Fatalf("P2.3: of %d, weight %d draws %d, weight %d draws %d", h, weight, light, weight+1, heavy)
			}
			if light > 0 || heavy > 0 {
				t.Fatalf("P2.2: of %d: straws of %d and %d", h, light, heavy)
			}
		}
	}
}

func TestWhoWeighsMoreWinsMoreOften(t *testing.T) {
	weights := []int{1, 2, 4, 8}
	won := make([]int, len(weights))
	const tries = 20000
	for try := range tries {
		l := make([]int64, len(weights))
		for osd, weight := range weights {
			l[osd] = straw.Draw(0, osd, try, weight)
		}
		won[straw.Best(l)]++
	}
	for osd, weight := range weights {
		want := tries * weight / 15
		if off := won[osd] - want; off < -want/10 || off > want/10 {
			t.Errorf("P2.3: weights %v won %v", weights, won)
		}
	}
}
