package choose_test

import (
	"fmt"
	"math"
	"math/rand/v2"
	"slices"
	"testing"

	"paddock/api"
	"paddock/history"
	"paddock/maps"
	"paddock/place"
)

func up(osd uint8) api.Inc            { return api.Inc{Kind: api.IUp, Osd: osd} }
func down(osd uint8) api.Inc          { return api.Inc{Kind: api.IDown, Osd: osd} }
func weight(osd uint8, n int) api.Inc { return api.Inc{Kind: api.IWeight, Osd: osd, N: n} }
func none() api.Inc                   { return api.Inc{Kind: api.INone} }

// at: from an epoch on these.
func at(since uint32, acting ...int) api.Interval {
	return api.Interval{Since: since, Acting: acting}
}

// row: so many increments of all kinds and daemons; another seed, another row.
func row(length int, seed uint64) []api.Inc {
	r := rand.New(rand.NewPCG(seed, 9))
	l := make([]api.Inc, length)
	for i := range l {
		l[i] = anyInc(r)
	}
	return l
}

func anyInc(r *rand.Rand) api.Inc {
	osd := uint8(r.IntN(api.Osds))
	kinds := [...]api.Inc{none(), up(osd), up(osd), up(osd), down(osd), down(osd), weight(osd, 0), weight(osd, 1+r.IntN(api.MaxWeight))}
	return kinds[r.IntN(len(kinds))]
}

// grown: a history of these increments, each added at its epoch.
func grown(t *testing.T, l ...api.Inc) *history.History {
	t.Helper()
	h := history.New()
	for _, x := range l {
		if e := h.Add(h.Last()+1, x); e != api.OK {
			t.Fatalf("Add of %v behind epoch %d: %v", x, h.Last(), e)
		}
	}
	return h
}

// noGroups: the first ones that aren't there, and the last one.
func noGroups() []uint8 { return []uint8{api.Groups, api.Groups + 1, 128, 255} }

// told: all that a history answers, as a text.
func told(h *history.History) string {
	s := fmt.Sprintln(h.Last())
	for epoch := range h.Last() + 2 {
		m, isMap := h.Map(epoch)
		x, isInc := h.Inc(epoch)
		s += fmt.Sprintln(epoch, m, isMap, x, isInc)
	}
	for group := range uint8(api.Groups + 1) {
		s += fmt.Sprintln(group, h.Acting(group), h.Since(group), h.Intervals(group))
	}
	return s
}

// worked: the intervals of a row of increments, worked out of its maps without layer 5.
func worked(l []api.Inc, group uint8) []api.Interval {
	var all []api.Interval
	for i := range len(l) + 1 {
		m, _ := maps.Fold(l[:i])
		acting := place.Acting(m, group)
		if i == 0 || !slices.Equal(acting, all[len(all)-1].Acting) {
			all = append(all, at(uint32(i+1), acting...))
		}
	}
	return all
}

// subsets: all lists of daemons, rising.
func subsets() [][]int {
	var all [][]int
	for bits := range 1 << api.Osds {
		l := []int{}
		for osd := range api.Osds {
			if bits>>osd&1 == 1 {
				l = append(l, osd)
			}
		}
		all = append(all, l)
	}
	return all
}

// strangers: numbers that are no daemon's, some of which are like one's in their lowest bits.
func strangers() []int {
	return []int{-1, -2, -5, -256, math.MinInt, math.MinInt + 4, api.Osds, api.Osds + 1, 10, 14, 256, 257, 260, 1 << 16, 1<<32 + 2, 1<<32 + 4, math.MaxInt}
}

func sameIntervals(k, l []api.Interval) bool {
	return slices.EqualFunc(k, l, func(a, b api.Interval) bool {
		return a.Since == b.Since && slices.Equal(a.Acting, b.Acting)
	})
}

// roomy: the same list, lying in a greater one, with others ahead of it and in the room behind it; and all of that greater one.
func roomy[T any](l []T, other T) (piece, all []T) {
	all = append([]T{other, other}, l...)
	all = append(all, other, other, other)
	return all[2 : 2+len(l)], all
}

// TestWorked holds what other tests lean on: the lists written out for the first map and for one daemon's going.
func TestWorked(t *testing.T) {
	for group, want := range [api.Groups][]api.Interval{
		{at(1, 4, 3, 2), at(3, 4, 3)}, {at(1, 2, 3, 0), at(3, 3, 0)}, {at(1, 4, 2, 3), at(3, 4, 3)}, {at(1, 3, 2, 4), at(3, 3, 4)},
	} {
		if got := worked([]api.Inc{none(), down(2), none()}, uint8(group)); !sameIntervals(got, want) {
			t.Errorf("group %d: %v, not %v", group, got, want)
		}
	}
}
