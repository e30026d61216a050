package history_test

import (
	"fmt"
	"slices"
	"testing"

	"paddock/api"
	"paddock/history"
	"paddock/maps"
	"paddock/place"
)

type intervals = [api.Groups][]api.Interval // a list a group

// at: from an epoch on these.
func at(since uint32, acting ...int) api.Interval {
	return api.Interval{Since: since, Acting: acting}
}

// firstly: the one interval of each group that the first map begins, with lists written out.
func firstly() intervals {
	return intervals{{at(1, 4, 3, 2)}, {at(1, 2, 3, 0)}, {at(1, 4, 2, 3)}, {at(1, 3, 2, 4)}}
}

// then: the first intervals, with these behind them.
func then(l intervals) intervals {
	all := firstly()
	for group := range all {
		all[group] = append(all[group], l[group]...)
	}
	return all
}

func same(k, l []api.Interval) bool {
	return slices.EqualFunc(k, l, func(a, b api.Interval) bool {
		return a.Since == b.Since && slices.Equal(a.Acting, b.Acting)
	})
}

// checkIntervals: h has these, and Since and Acting are of the last one.
func checkIntervals(t *testing.T, name string, h *history.History, want intervals) {
	t.Helper()
	for group, l := range want {
		if got := h.Intervals(uint8(group)); !same(got, l) {
			t.Errorf("P5.2: Intervals, %s, group %d: %v, not %v", name, group, got, l)
		}
		last := l[len(l)-1]
		if got := h.Since(uint8(group)); got != last.Since {
			t.Errorf("P5.2: Since, %s, group %d: %d, not %d", name, group, got, last.Since)
		}
		if got := h.Acting(uint8(group)); !slices.Equal(got, last.Acting) {
			t.Errorf("P5.2: Acting, %s, group %d: %v, not %v", name, group, got, last.Acting)
		}
	}
}

func TestIntervals(t *testing.T) {
	for _, c := range []struct {
		name string
		l    []api.Inc
		want intervals
	}{
		{"the first map alone", nil, firstly()},
		{"nothing, twice", []api.Inc{none(), none()}, firstly()},
		{"up that is up", []api.Inc{up(0), up(4)}, firstly()},
		{"the weight that it has", []api.Inc{weight(3, 8)}, firstly()},
		{"another weight, and nobody moves", []api.Inc{weight(2, 5), weight(2, 8), weight(3, api.MaxWeight)}, firstly()},
		{"whom no group has is down, and out", []api.Inc{down(1), weight(1, 0), up(1)}, firstly()},
		{"down", []api.Inc{down(2)}, then(intervals{
			{at(2, 4, 3)}, {at(2, 3, 0)}, {at(2, 4, 3)}, {at(2, 3, 4)},
		})},
		{"down, and up again", []api.Inc{down(3), up(3)}, then(intervals{
			{at(2, 4, 2), at(3, 4, 3, 2)}, {at(2, 2, 0), at(3, 2, 3, 0)}, {at(2, 4, 2), at(3, 4, 2, 3)}, {at(2, 2, 4), at(3, 3, 2, 4)},
		})},
		{"down, nothing, down that is down, and up again", []api.Inc{none(), down(0), none(), down(0), up(0), none()}, then(intervals{
			nil, {at(3, 2, 3), at(6, 2, 3, 0)}, nil, nil,
		})},
		{"out, and in again", []api.Inc{weight(3, 0), weight(3, 8)}, then(intervals{
			{at(2, 4, 1, 2), at(3, 4, 3, 2)}, {at(2, 2, 0, 1), at(3, 2, 3, 0)}, {at(2, 4, 2, 1), at(3, 4, 2, 3)}, {at(2, 0, 2, 1), at(3, 3, 2, 4)},
		})},
		{"the first group and the last one, then the last one alone", []api.Inc{weight(2, 4), weight(2, 5), weight(4, 3)}, then(intervals{
			{at(2, 4, 3, 1), at(3, 4, 3, 2)}, nil, nil, {at(2, 3, 0, 2), at(3, 3, 2, 4), at(4, 3, 2, 1)},
		})},
		{"the order alone: group 2 at 3", []api.Inc{weight(2, 4), weight(2, 3)}, then(intervals{
			{at(2, 4, 3, 1)}, {at(3, 2, 4, 3)}, {at(3, 4, 3, 2)}, {at(2, 3, 0, 2), at(3, 3, 0, 1)},
		})},
		{"the order alone, with another primary: group 2 at 3", []api.Inc{down(4), weight(2, 3)}, then(intervals{
			{at(2, 3, 2), at(3, 3, 1)}, {at(3, 2, 3)}, {at(2, 2, 3), at(3, 3, 2)}, {at(2, 3, 2), at(3, 3, 0, 1)},
		})},
		{"another one is picked, who is down too: group 1 at 4", []api.Inc{down(0), down(1), weight(0, 0)}, then(intervals{
			nil, {at(2, 2, 3)}, nil, nil,
		})},
		{"all of a group's daemons are down, and one comes up", []api.Inc{down(4), down(3), down(2), none(), down(0), up(3)}, then(intervals{
			{at(2, 3, 2), at(3, 2), at(4), at(7, 3)},
			{at(3, 2, 0), at(4, 0), at(6), at(7, 3)},
			{at(2, 2, 3), at(3, 2), at(4), at(7, 3)},
			{at(2, 3, 2), at(3, 2), at(4), at(7, 3)},
		})},
		{"nobody weighs anything", []api.Inc{down(4), down(3), down(2), down(0), weight(4, 0), weight(3, 0), weight(2, 0), weight(1, 0), weight(0, 0), up(0), weight(0, 1)}, then(intervals{
			{at(2, 3, 2), at(3, 2), at(4), at(7, 1), at(9), at(12, 0)},
			{at(3, 2, 0), at(4, 0), at(5), at(7, 1), at(9), at(12, 0)},
			{at(2, 2, 3), at(3, 2), at(4), at(7, 1), at(9), at(12, 0)},
			{at(2, 3, 2), at(3, 2), at(4), at(6, 1), at(9), at(12, 0)},
		})},
	} {
		checkIntervals(t, c.name, grown(t, c.l), c.want)
	}
}

func TestNewHasOneIntervalSinceTheFirstEpoch(t *testing.T) {
	h := history.New()
	for group := range uint8(api.Groups) {
		if l := h.Intervals(group); len(l) != 1 || l[0].Since != 1 || h.Since(group) != 1 || len(h.Acting(group)) != api.Size {
			t.Errorf("P5.2: New, group %d: %v, %d, %v", group, l, h.Since(group), h.Acting(group))
		}
	}
}

func TestAsManyIntervalsAsThereCanBe(t *testing.T) {
	h := history.New()
	var want intervals
	for group, l := range firstly() {
		want[group] = append(want[group], l...)
	}
	without := intervals{{at(0, 4, 2)}, {at(0, 2, 0)}, {at(0, 4, 2)}, {at(0, 2, 4)}}
	for epoch := uint32(2); epoch <= api.MaxEpoch; epoch++ {
		x, now := up(3), firstly()
		if epoch%2 == 0 {
			x, now = down(3), without
		}
		grow(t, h, []api.Inc{x})
		for group := range want {
			want[group] = append(want[group], at(epoch, now[group][0].Acting...))
		}
	}
	checkIntervals(t, "one an epoch", h, want)
	checkRefused(t, h, api.MaxEpoch+1, up(3), api.ErrMap)
	checkIntervals(t, "one an epoch, and one more is refused", h, want)
}

func TestOneIntervalOfAsManyEpochsAsThereCanBe(t *testing.T) {
	l := make([]api.Inc, api.MaxEpoch-1)
	for i := range l {
		l[i] = none()
	}
	checkIntervals(t, "nothing, up to the last epoch", grown(t, l), firstly())
	l[len(l)-1] = down(0)
	checkIntervals(t, "down at the last epoch", grown(t, l), then(intervals{nil, {at(api.MaxEpoch, 2, 3)}, nil, nil}))
}

// eachEpoch: who acts for a group by the maps of a row, an entry an epoch.
func eachEpoch(l []api.Inc, group uint8) [][]int {
	var all [][]int
	for i := range len(l) + 1 {
		m, _ := maps.Fold(l[:i])
		all = append(all, place.Acting(m, group))
	}
	return all
}

func TestIntervalsOfManyRows(t *testing.T) {
	for seed := range uint64(40) {
		l := row(api.MaxEpoch-1, seed)
		h := grown(t, l)
		for group := range uint8(api.Groups) {
			acting := eachEpoch(l, group)
			got := h.Intervals(group)
			if got[0].Since != 1 || h.Since(group) != got[len(got)-1].Since || !slices.Equal(h.Acting(group), acting[len(l)]) {
				t.Fatalf("P5.2: row %d, group %d: %v, since %d, acting %v", seed, group, got, h.Since(group), h.Acting(group))
			}
			place := 0
			for i, want := range acting {
				begins := i > 0 && !slices.Equal(want, acting[i-1])
				if begins {
					place++
				}
				if place >= len(got) || begins && got[place].Since != uint32(i+1) || !slices.Equal(got[place].Acting, want) {
					t.Fatalf("P5.2: row %d, group %d, epoch %d: %v of %v; not %v", seed, group, i+1, place, got, want)
				}
			}
			if place != len(got)-1 {
				t.Fatalf("P5.2: row %d, group %d: %d intervals too many in %v", seed, group, len(got)-1-place, got)
			}
		}
	}
}

func TestNothingOfWhatIsNoGroup(t *testing.T) {
	for _, length := range []int{0, 1, 20, api.MaxEpoch - 1} {
		h := grown(t, row(length, 10))
		for group := api.Groups; group < 256; group++ {
			g := uint8(group)
			if len(h.Acting(g)) > 0 || len(h.Intervals(g)) > 0 || h.Since(g) != 0 {
				t.Errorf("P5.2: group %d, behind %d increments: %v, %v, %d", g, length, h.Acting(g), h.Intervals(g), h.Since(g))
			}
		}
	}
}

// noise: calls that are refused, of all kinds.
func noise(t *testing.T, h *history.History, x api.Inc) {
	t.Helper()
	last := h.Last()
	for _, c := range []struct {
		epoch uint32
		x     api.Inc
		want  api.Errno
	}{
		{last + 2, x, api.ErrGap},
		{last + 2, down(2), api.ErrGap},
		{last, weight(3, 0), api.ErrOld},
		{0, down(0), api.ErrOld},
		{last + 1, api.Inc{Kind: 9}, api.ErrMap},
		{1<<32 - 1, x, api.ErrGap},
		{1, x, api.ErrOld},
	} {
		if e := h.Add(c.epoch, c.x); e != c.want {
			t.Fatalf("P5.1: Add(%d, %v), the last one is %d: %v, not %v", c.epoch, c.x, last, e, c.want)
		}
	}
}

func TestWhoeverHasTheSameIncrementsHasTheSameIntervals(t *testing.T) {
	for seed := range uint64(6) {
		l := row(api.MaxEpoch-1, seed)
		plain, noisy, copied := history.New(), history.New(), history.New()
		for i, x := range l {
			grow(t, plain, l[i:i+1])

			noise(t, noisy, x)
			for epoch := min(uint32(api.MaxEpoch), noisy.Last()+3); epoch > 1; epoch-- {
				noisy.Add(epoch, l[epoch-2])
			}

			elder := copied
			copied = elder.Copy()
			grow(t, copied, l[i:i+1])
			grow(t, elder, []api.Inc{weight(uint8(i%api.Osds), 0)})

			want := told(plain)
			if got := told(noisy); got != want {
				t.Fatalf("P5.3: row %d, epoch %d, with refused calls between: %s, not %s", seed, i+2, got, want)
			}
			if got := told(copied); got != want {
				t.Fatalf("P5.3: row %d, epoch %d, from copy to copy: %s, not %s", seed, i+2, got, want)
			}
		}
	}
}

func TestAskingChangesNothing(t *testing.T) {
	l := row(30, 11)
	asked := history.New()
	for i := range l {
		told(asked)
		grow(t, asked, l[i:i+1])
	}
	if got, want := told(asked), told(grown(t, l)); got != want {
		t.Errorf("P5.3: asked at each epoch: %s, not %s", got, want)
	}
}

func TestWhatComesLaterChangesNoEarlierInterval(t *testing.T) {
	l := row(api.MaxEpoch-1, 12)
	h := history.New()
	var was intervals
	for i := range l {
		for group := range uint8(api.Groups) {
			was[group] = h.Intervals(group)
		}
		grow(t, h, l[i:i+1])
		for group, before := range was {
			now := h.Intervals(uint8(group))
			if len(now) < len(before) || len(now) > len(before)+1 || !same(now[:len(before)], before) {
				t.Fatalf("P5.2: epoch %d, group %d: %v behind %v", i+2, group, now, before)
			}
		}
	}
}

// spoil writes over a list and all the room behind it, as whoever was given it may.
func spoil(l []int) {
	l = l[:cap(l)]
	for i := range l {
		l[i] = -7
	}
}

func TestListsAreNewMemory(t *testing.T) {
	h := grown(t, row(40, 13))
	c := h.Copy()
	want := told(h)
	for group := range uint8(api.Groups) {
		acting, l := h.Acting(group), h.Intervals(group)
		wantActing, wantIntervals := fmt.Sprint(acting), fmt.Sprint(l)

		spoil(h.Acting(group))
		other := h.Intervals(group)
		for _, x := range other {
			spoil(x.Acting)
		}
		other = other[:cap(other)]
		for i := range other {
			other[i] = at(77, 7)
		}
		if fmt.Sprint(acting) != wantActing || fmt.Sprint(l) != wantIntervals {
			t.Errorf("rule 3: earlier lists of group %d became %v and %v", group, acting, l)
		}

		spoil(acting)
		if fmt.Sprint(l) != wantIntervals {
			t.Errorf("rule 3: Acting, written into, made %v of %v", l, wantIntervals)
		}
		for i := range l {
			rest := fmt.Sprint(l[i+1:])
			spoil(l[i].Acting)
			if got := fmt.Sprint(l[i+1:]); got != rest {
				t.Errorf("rule 3: a list of an answer, written into, made %s of %s", got, rest)
			}
		}
	}
	if got := told(h); got != want {
		t.Errorf("rule 3: answers, written into, made %s of %s", got, want)
	}
	if got := told(c); got != want {
		t.Errorf("rule 3: answers, written into, made %s of %s, in a copy", got, want)
	}
}
