package choose_test

import (
	"math"
	"math/rand/v2"
	"slices"
	"testing"

	"paddock/api"
	"paddock/choose"
	"paddock/history"
)

// hearing: who was heard, with what start; and what is to be said of it.
type hearing struct {
	name    string
	heard   []int
	started uint32
	lacks   []api.Interval
	enough  bool
}

// checkHearing: Lacks and Enough are these, and leave what they were handed as it was.
func checkHearing(t *testing.T, h *history.History, group uint8, c hearing) {
	t.Helper()
	heard, before := slices.Clone(c.heard), told(h)
	if got := choose.Lacks(h, group, c.heard, c.started); !sameIntervals(got, c.lacks) {
		t.Errorf("P9.2: Lacks, %s: group %d, heard %v, started %d: %v, not %v", c.name, group, c.heard, c.started, got, c.lacks)
	}
	if got := choose.Enough(h, group, c.heard, c.started); got != c.enough {
		t.Errorf("P9.2: Enough, %s: group %d, heard %v, started %d: %v", c.name, group, c.heard, c.started, got)
	}
	if !slices.Equal(c.heard, heard) || told(h) != before {
		t.Errorf("rule 3: %s: what was handed in is another one", c.name)
	}
}

func TestOneIntervalAlone(t *testing.T) {
	for name, h := range map[string]*history.History{
		"New": history.New(), "several epochs": grown(t, none(), up(4), weight(3, 8), down(1), none()),
	} {
		for _, c := range []hearing{
			{name, []int{4, 3, 2}, 0, nil, true},
			{name, []int{2, 3, 4}, 1, nil, true},
			{name, []int{0, 1, 2, 3, 4}, 1, nil, true},
			{name, []int{4, 3, 2, 4, 2}, 1, nil, true},
			{name, []int{2, 3, 4}, 2, nil, true},
			{name, []int{3, 4}, 1, nil, false},
			{name, []int{2, 4}, 1, nil, false},
			{name, []int{2, 3}, 1, nil, false},
			{name, []int{2, 3, 3}, 1, nil, false},
			{name, []int{0, 1, 2, 3}, 1, nil, false},
			{name, []int{0, 1}, 1, nil, false},
			{name, nil, 0, nil, false},
			{name, []int{}, 60, nil, false},
		} {
			checkHearing(t, h, 0, c)
		}
	}
}

// TestIntervalsOfAllSizes: of three, two, one, no daemons, and of one.
func TestIntervalsOfAllSizes(t *testing.T) {
	h := grown(t, down(4), down(3), down(2), none(), down(0), up(3))
	three, two := at(1, 4, 3, 2), at(2, 3, 2)
	if got, want := h.Intervals(0), []api.Interval{three, two, at(3, 2), at(4), at(7, 3)}; !sameIntervals(got, want) {
		t.Fatalf("intervals: %v, not %v", got, want)
	}
	both := []api.Interval{three, two}
	for _, c := range []hearing{
		{"none", nil, 0, both, false},
		{"an empty list", []int{}, 0, both, false},
		{"started at the first Since", nil, 1, both, false},
		{"started at the second Since", nil, 2, both[1:], false},
		{"started behind both", nil, 3, nil, false},
		{"started behind both, and the last one's daemon", []int{3}, 3, nil, true},
		{"one that acts in the first alone", []int{4}, 0, both[1:], false},
		{"one that acts in the first alone, started at the second Since", []int{4}, 2, both[1:], false},
		{"one that acts in the first alone, started behind both", []int{4}, 3, nil, false},
		{"the last one of several", []int{2}, 0, nil, false},
		{"one that acts in both, and in the last one", []int{3}, 0, nil, true},
		{"all", []int{0, 1, 2, 3, 4}, 0, nil, true},
		{"all of both", []int{4, 3, 2}, 0, nil, true},
		{"one twice", []int{3, 3}, 0, nil, true},
		{"another one twice", []int{4, 4}, 0, both[1:], false},
		{"such as act in none", []int{0, 1}, 0, both, false},
		{"such as act in none, started at the second Since", []int{1, 0, 1}, 2, both[1:], false},
		{"such as act in none, beside one that does", []int{1, 0, 3}, 0, nil, true},
	} {
		checkHearing(t, h, 0, c)
	}
}

// TestTheLastIntervalIsNeverLacking: whatever its size is.
func TestTheLastIntervalIsNeverLacking(t *testing.T) {
	three, two := at(1, 4, 3, 2), at(2, 3, 2)
	for _, c := range []struct {
		l    []api.Inc
		want []api.Interval
	}{
		{nil, nil},
		{[]api.Inc{down(4)}, []api.Interval{three}},
		{[]api.Inc{down(4), down(3)}, []api.Interval{three, two}},
		{[]api.Inc{down(4), down(3), down(2)}, []api.Interval{three, two}},
		{[]api.Inc{down(4), down(3), down(2), up(3)}, []api.Interval{three, two}},
		{[]api.Inc{down(4), down(3), down(2), up(3), up(2)}, []api.Interval{three, two}},
		{[]api.Inc{down(4), down(3), down(2), up(3), up(2), up(4)}, []api.Interval{three, two, at(6, 3, 2)}},
		{[]api.Inc{down(4), down(3), down(2), up(3), up(2), up(4), none()}, []api.Interval{three, two, at(6, 3, 2)}},
		{[]api.Inc{down(4), up(4), down(4), up(4)}, []api.Interval{three, two, at(3, 4, 3, 2), at(4, 3, 2)}},
	} {
		checkHearing(t, grown(t, c.l...), 0, hearing{"nobody", nil, 0, c.want, false})
	}
}

// TestIntervalsOfOthers: the same three, but for a while another one instead of one of them.
func TestIntervalsOfOthers(t *testing.T) {
	h := grown(t, weight(3, 0), none(), weight(3, 8), none(), down(2))
	first, other, again := at(1, 4, 3, 2), at(2, 4, 1, 2), at(4, 4, 3, 2)
	if got, want := h.Intervals(0), []api.Interval{first, other, again, at(6, 4, 3)}; !sameIntervals(got, want) {
		t.Fatalf("intervals: %v, not %v", got, want)
	}
	for _, c := range []hearing{
		{"who acts now", []int{4, 3}, 0, nil, true},
		{"one of who acts now", []int{4}, 0, nil, false},
		{"the other one of who acts now", []int{3}, 0, []api.Interval{other}, false},
		{"the other one, started at that Since", []int{3}, 2, []api.Interval{other}, false},
		{"the other one, started within that", []int{3}, 3, nil, false},
		{"the one that came between", []int{1}, 0, []api.Interval{first, again}, false},
		{"the one that came between, started there", []int{1}, 2, []api.Interval{again}, false},
		{"the one that came between, started at the third", []int{1}, 4, []api.Interval{again}, false},
		{"the one that came between, started behind the third", []int{1}, 5, nil, false},
		{"the one that came between, and another one", []int{3, 1}, 0, nil, false},
		{"who doesn't act now, but acted always", []int{2}, 0, nil, false},
		{"whoever never acts", []int{0}, 0, []api.Interval{first, other, again}, false},
		{"whoever never acts, started now", []int{0}, 6, nil, false},
		{"whoever never acts, started above all", []int{0}, api.MaxEpoch, nil, false},
	} {
		checkHearing(t, h, 0, c)
	}
}

// TestAllOfTheLastAndAnEarlierOneLacking: those that act now took the place of others.
func TestAllOfTheLastAndAnEarlierOneLacking(t *testing.T) {
	h := grown(t, down(2), down(3), weight(2, 0), weight(3, 0), weight(4, 0))
	three, two := at(1, 4, 3, 2), at(2, 4, 3)
	if got, want := h.Intervals(0), []api.Interval{three, two, at(3, 4), at(4, 4, 1), at(6, 1, 0)}; !sameIntervals(got, want) {
		t.Fatalf("intervals: %v, not %v", got, want)
	}
	for _, c := range []hearing{
		{"who acts now", []int{1, 0}, 0, []api.Interval{three, two}, false},
		{"who acts now, started at the first Since", []int{0, 1}, 1, []api.Interval{three, two}, false},
		{"who acts now, started at the second Since", []int{1, 0}, 2, []api.Interval{two}, false},
		{"who acts now, started behind both", []int{1, 0}, 3, nil, true},
		{"who acts now, and one of the first", []int{1, 0, 2}, 0, []api.Interval{two}, false},
		{"who acts now, and one of both", []int{1, 3, 0}, 0, nil, true},
		{"all", []int{4, 3, 2, 1, 0}, 0, nil, true},
		{"all but the primary", []int{4, 3, 2, 0}, 0, nil, false},
		{"all but the other one", []int{4, 3, 2, 1}, 0, nil, false},
	} {
		checkHearing(t, h, 0, c)
	}
}

func TestALastIntervalOfNobody(t *testing.T) {
	h := grown(t, down(4), down(3), down(2))
	three, two := at(1, 4, 3, 2), at(2, 3, 2)
	for _, c := range []hearing{
		{"nobody", nil, 0, []api.Interval{three, two}, false},
		{"one of the first", []int{4}, 0, []api.Interval{two}, false},
		{"one of both", []int{3}, 0, nil, true},
		{"nobody, and it was started behind both", nil, 3, nil, true},
	} {
		checkHearing(t, h, 0, c)
	}
}

func TestStrangersAreNotHeard(t *testing.T) {
	h := grown(t, weight(3, 0), none(), weight(3, 8), none(), down(2))
	first, other, again := at(1, 4, 3, 2), at(2, 4, 1, 2), at(4, 4, 3, 2)
	all := []api.Interval{first, other, again}
	checkHearing(t, h, 0, hearing{"strangers alone", strangers(), 0, all, false})
	for _, osd := range strangers() {
		checkHearing(t, h, 0, hearing{"one stranger", []int{osd}, 0, all, false})
		checkHearing(t, h, 0, hearing{"one stranger, and it was started now", []int{osd}, 6, nil, false})
		checkHearing(t, h, 0, hearing{"a stranger ahead", []int{osd, 4, 3}, 0, nil, true})
		checkHearing(t, h, 0, hearing{"a stranger between", []int{3, osd, 1}, 0, nil, false})
		checkHearing(t, h, 0, hearing{"a stranger behind", []int{3, osd}, 0, []api.Interval{other}, false})
	}
	var many []int
	for range 2000 {
		many = append(many, strangers()...)
	}
	checkHearing(t, h, 0, hearing{"many strangers", many, 0, all, false})
	checkHearing(t, h, 0, hearing{"many strangers, and who acts now", append(many, 3, 4), 0, nil, true})
}

func TestAStartedThatIsNone(t *testing.T) {
	h := grown(t, weight(3, 0), none(), weight(3, 8), none(), down(2))
	for _, started := range []uint32{7, api.MaxEpoch, api.MaxEpoch + 1, 256, 257, 1<<16 + 1, 1 << 31, 1<<31 + 1, math.MaxUint32 - 1, math.MaxUint32} {
		checkHearing(t, h, 0, hearing{"nobody", nil, started, nil, false})
		checkHearing(t, h, 0, hearing{"one of who acts now", []int{4, 2, 1, 0}, started, nil, false})
		checkHearing(t, h, 0, hearing{"who acts now", []int{3, 4}, started, nil, true})
	}
}

// TestNoGroup: nobody acts for it, so that none of its intervals lacks, and none that acts is unheard.
func TestNoGroup(t *testing.T) {
	for _, h := range []*history.History{history.New(), grown(t, down(4), down(3), up(4)), grown(t, row(api.MaxEpoch-1, 1)...)} {
		for _, group := range noGroups() {
			for _, heard := range [][]int{nil, {0, 1, 2, 3, 4}, {2}, strangers()} {
				for _, started := range []uint32{0, 1, 60, 61, math.MaxUint32} {
					checkHearing(t, h, group, hearing{"no group", heard, started, nil, true})
				}
			}
			if choose.Serves(h, group) {
				t.Errorf("P9.2: Serves: group %d, which isn't there", group)
			}
		}
	}
}

func TestServes(t *testing.T) {
	for _, c := range []struct {
		name string
		l    []api.Inc
		want [api.Groups]bool // by the lists of New: 4 3 2; 2 3 0; 4 2 3; 3 2 4
	}{
		{"New", nil, [api.Groups]bool{true, true, true, true}},
		{"whom nobody has is down", []api.Inc{down(1)}, [api.Groups]bool{true, true, true, true}},
		{"MinSize", []api.Inc{down(2)}, [api.Groups]bool{true, true, true, true}},
		{"MinSize, the first ones are down", []api.Inc{down(4)}, [api.Groups]bool{true, true, true, true}},
		{"one, and MinSize of group 1", []api.Inc{down(4), down(3)}, [api.Groups]bool{false, true, false, false}},
		{"one", []api.Inc{down(2), down(3)}, [api.Groups]bool{false, false, false, false}},
		{"none, and one of group 1", []api.Inc{down(2), down(3), down(4)}, [api.Groups]bool{false, false, false, false}},
		{"none", []api.Inc{down(2), down(3), down(4), down(0)}, [api.Groups]bool{false, false, false, false}},
		{"nobody is up", []api.Inc{down(0), down(1), down(2), down(3), down(4)}, [api.Groups]bool{false, false, false, false}},
		{"nobody weighs anything", []api.Inc{weight(0, 0), weight(1, 0), weight(2, 0), weight(3, 0), weight(4, 0)}, [api.Groups]bool{false, false, false, false}},
		{"one alone weighs something", []api.Inc{weight(0, 0), weight(1, 0), weight(2, 0), weight(3, 0)}, [api.Groups]bool{false, false, false, false}},
		{"one again behind none, and MinSize of group 1", []api.Inc{down(2), down(3), down(4), up(3)}, [api.Groups]bool{false, true, false, false}},
		{"MinSize again behind none", []api.Inc{down(2), down(3), down(4), up(3), up(4)}, [api.Groups]bool{true, true, true, true}},
		{"three again behind none", []api.Inc{down(2), down(3), down(4), up(3), up(4), up(2)}, [api.Groups]bool{true, true, true, true}},
	} {
		h := grown(t, c.l...)
		before := told(h)
		for group, want := range c.want {
			if got := choose.Serves(h, uint8(group)); got != want {
				t.Errorf("P9.2: Serves, %s: group %d: %v, not %v", c.name, group, got, want)
			}
		}
		if told(h) != before {
			t.Errorf("rule 3: Serves, %s: the history is another one", c.name)
		}
	}
}

// expected: what is to be said of a row of increments, by intervals that were worked out without layer 5.
func expected(l []api.Interval, heard []int, started uint32) hearing {
	c := hearing{name: "worked", heard: heard, started: started, enough: true}
	for i, x := range l {
		count := 0
		for _, osd := range x.Acting {
			if slices.Contains(heard, osd) {
				count++
			}
		}
		last := i == len(l)-1
		if !last && len(x.Acting) >= 2 && x.Since >= started && count == 0 {
			c.lacks = append(c.lacks, x)
		}
		if last && count < len(x.Acting) {
			c.enough = false
		}
	}
	c.enough = c.enough && len(c.lacks) == 0
	return c
}

// checkAgainst is checkHearing without a look at the history.
func checkAgainst(t *testing.T, h *history.History, group uint8, c hearing) {
	t.Helper()
	if got := choose.Lacks(h, group, c.heard, c.started); !sameIntervals(got, c.lacks) {
		t.Fatalf("P9.2: Lacks: group %d of %v, heard %v, started %d: %v, not %v", group, h.Intervals(group), c.heard, c.started, got, c.lacks)
	}
	if got := choose.Enough(h, group, c.heard, c.started); got != c.enough {
		t.Fatalf("P9.2: Enough: group %d of %v, heard %v, started %d: %v", group, h.Intervals(group), c.heard, c.started, got)
	}
}

// TestAllHearingsOfShortRows: whoever may be heard, and each start there may be.
func TestAllHearingsOfShortRows(t *testing.T) {
	for seed := range uint64(12) {
		l := row(10, seed)
		h := grown(t, l...)
		before := told(h)
		for group := range uint8(api.Groups) {
			intervals := worked(l, group)
			if got, want := choose.Serves(h, group), len(intervals[len(intervals)-1].Acting) >= 2; got != want {
				t.Fatalf("P9.2: Serves: group %d of %v: %v", group, intervals, got)
			}
			for _, heard := range subsets() {
				for started := range h.Last() + 2 {
					checkAgainst(t, h, group, expected(intervals, heard, started))
				}
			}
		}
		if told(h) != before {
			t.Fatal("rule 3: the history is another one")
		}
	}
}

// TestHearingsOfLongRows: up to the last epoch there can be, heard in any order, with some twice and strangers between.
func TestHearingsOfLongRows(t *testing.T) {
	r := rand.New(rand.NewPCG(9, 2))
	for seed := range uint64(30) {
		l := row(api.MaxEpoch-1, seed)
		h := grown(t, l...)
		for group := range uint8(api.Groups) {
			intervals := worked(l, group)
			for range 12 {
				var heard []int
				for range r.IntN(6) {
					heard = append(heard, r.IntN(api.Osds))
				}
				if r.IntN(3) == 0 {
					heard = slices.Insert(heard, r.IntN(len(heard)+1), strangers()...)
				}
				checkAgainst(t, h, group, expected(intervals, heard, uint32(r.IntN(api.MaxEpoch+2))))
			}
		}
	}
}

// within tells whether all of k are among l, in l's order.
func within(k, l []api.Interval) bool {
	for _, x := range l {
		if len(k) > 0 && x.Since == k[0].Since {
			k = k[1:]
		}
	}
	return len(k) == 0
}

// TestWhoeverHearsMoreLacksNoMore: nor does whoever knows of a later start.
func TestWhoeverHearsMoreLacksNoMore(t *testing.T) {
	for seed := range uint64(12) {
		h := grown(t, row(14, 100+seed)...)
		for group := range uint8(api.Groups) {
			for _, heard := range subsets() {
				less, enough := choose.Lacks(h, group, heard, 2), choose.Enough(h, group, heard, 2)
				for osd := range api.Osds {
					more := append(slices.Clone(heard), osd)
					if got := choose.Lacks(h, group, more, 2); !within(got, less) {
						t.Fatalf("P9.2: group %d: heard %v: %v; heard %v: %v", group, heard, less, more, got)
					}
					if enough && !choose.Enough(h, group, more, 2) {
						t.Fatalf("P9.2: group %d: heard %v is enough, %v isn't", group, heard, more)
					}
				}
				if got := choose.Lacks(h, group, heard, 5); !within(got, less) || enough && !choose.Enough(h, group, heard, 5) {
					t.Fatalf("P9.2: group %d: heard %v: %v since 2, %v since 5", group, heard, less, got)
				}
			}
		}
	}
}
