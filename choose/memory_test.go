package choose_test

import (
	"fmt"
	"slices"
	"testing"

	"paddock/api"
	"paddock/choose"
	"paddock/history"
)

// spoil writes over a list of intervals, their daemons, and all the room behind them, as whoever was given it may.
func spoil(l []api.Interval) {
	l = l[:cap(l)]
	for i := range l {
		spoilOsds(l[i].Acting)
		l[i] = at(77, 7)
	}
}

func spoilOsds(l []int) {
	l = l[:cap(l)]
	for i := range l {
		l[i] = -7
	}
}

// moving: a history in which many intervals lack.
func moving(t *testing.T) *history.History {
	return grown(t, down(4), up(4), down(3), none(), up(3), weight(2, 0), weight(2, 8), down(2), up(2), weight(4, 3))
}

func TestLacksIsNewMemory(t *testing.T) {
	h := moving(t)
	c := h.Copy()
	want := told(h)
	for group := range uint8(api.Groups) {
		for _, heard := range [][]int{nil, {0}, {1}, {3}, {4}, {2, 4}} {
			one, other := choose.Lacks(h, group, heard, 0), choose.Lacks(h, group, heard, 0)
			later := choose.Lacks(h, group, heard, 3)
			wantOther, wantLater := fmt.Sprint(other), fmt.Sprint(later)
			intervals := h.Intervals(group)
			wantIntervals := fmt.Sprint(intervals)
			spoil(one)
			if fmt.Sprint(other) != wantOther || fmt.Sprint(later) != wantLater {
				t.Errorf("rule 3: group %d, heard %v: an answer of Lacks, written into, made %v and %v of others", group, heard, other, later)
			}
			if fmt.Sprint(intervals) != wantIntervals || told(h) != want || told(c) != want {
				t.Errorf("rule 3: group %d, heard %v: an answer of Lacks, written into, turned the history", group, heard)
			}
			if got := fmt.Sprint(choose.Lacks(h, group, heard, 0)); got != wantOther {
				t.Errorf("rule 3: group %d, heard %v: behind an answer that was written into: %s, not %s", group, heard, got, wantOther)
			}
		}
	}
}

// TestListsOfOneAnswerShareNothing: one after the other is written into, with the room behind it.
func TestListsOfOneAnswerShareNothing(t *testing.T) {
	for group := range uint8(api.Groups) {
		l := choose.Lacks(moving(t), group, nil, 0)
		if len(l) < 4 {
			t.Fatalf("group %d lacks %v alone", group, l)
		}
		for i := range l {
			others := fmt.Sprint(l[:i], l[i+1:])
			spoilOsds(l[i].Acting)
			if got := fmt.Sprint(l[:i], l[i+1:]); got != others {
				t.Errorf("rule 3: group %d: list %d, written into, made %s of %s", group, i, got, others)
			}
		}
	}
}

// TestAnswersAreNotTurnedByTheHistory: what comes later comes to no answer that was given.
func TestAnswersAreNotTurnedByTheHistory(t *testing.T) {
	h := moving(t)
	l := choose.Lacks(h, 0, nil, 0)
	want := fmt.Sprint(l)
	for _, x := range []api.Inc{down(4), down(3), up(4), weight(0, 0)} {
		h.Add(h.Last()+1, x)
	}
	for _, x := range h.Intervals(0) {
		spoilOsds(x.Acting)
	}
	if got := fmt.Sprint(l); got != want {
		t.Errorf("rule 3: what came later made %s of %s", got, want)
	}
}

// TestHeardIsNeitherTurnedNorKept: nor is the room around it.
func TestHeardIsNeitherTurnedNorKept(t *testing.T) {
	h := moving(t)
	want := told(h)
	for _, heard := range [][]int{nil, {}, {4}, {2, 1, 2}, {4, 3, 2, 1, 0}, strangers(), append(strangers(), 3, 0)} {
		for _, group := range append(noGroups(), 0, 1, 2, 3) {
			for _, started := range []uint32{0, 3, api.MaxEpoch + 1} {
				piece, all := roomy(heard, 1)
				before := slices.Clone(all)
				l := choose.Lacks(h, group, piece, started)
				enough := choose.Enough(h, group, piece, started)
				if !slices.Equal(all, before) {
					t.Fatalf("rule 3: heard %v, or the room around it, became %v", heard, all)
				}
				lacks := fmt.Sprint(l)
				spoilOsds(all)
				if got := fmt.Sprint(l); got != lacks {
					t.Errorf("rule 3: group %d: heard %v, written into, made %s of %s", group, heard, got, lacks)
				}
				if got := fmt.Sprint(choose.Lacks(h, group, heard, started)); got != lacks || choose.Enough(h, group, heard, started) != enough {
					t.Errorf("rule 6: group %d: heard %v: %s, then %s", group, heard, lacks, got)
				}
			}
		}
	}
	if told(h) != want {
		t.Error("rule 3: the history is another one")
	}
}

// TestNilAndEmptyAreTheSame: of lists that are handed in.
func TestNilAndEmptyAreTheSame(t *testing.T) {
	h := moving(t)
	for group := range uint8(api.Groups) {
		if a, b := choose.Lacks(h, group, nil, 0), choose.Lacks(h, group, []int{}, 0); !sameIntervals(a, b) || len(a) == 0 {
			t.Errorf("rule 2: Lacks of group %d: %v, %v", group, a, b)
		}
		if choose.Enough(h, group, nil, 0) || choose.Enough(h, group, []int{}, 0) {
			t.Errorf("rule 2: Enough of group %d", group)
		}
	}
}

// TestStatesAreNotTurned: neither the rows, nor the logs, nor the room around them, whether there is a best one or not.
func TestStatesAreNotTurned(t *testing.T) {
	other := api.Entry{Since: 1, N: 1, Op: write(1, "other")}
	for _, rows := range [][]api.State{
		nil,
		{logged(7, 5, 8, 3)},
		{logged(7, 5, 8, 3), tail(7, 5, 8), logged(9, 3, 6, 6), {}},
		{tail(0, 0, 0), logged(7, 5, 8, api.MaxLog+1), tail(3, 2, 1)},
		{tail(61, 0, 0), logged(7, 5, 8, 2)},
	} {
		var logs, keptLogs [][]api.Entry
		for i := range rows {
			piece, all := roomy(rows[i].Log, other)
			rows[i].Log = piece
			logs, keptLogs = append(logs, all), append(keptLogs, slices.Clone(all))
		}
		l, all := roomy(rows, tail(60, 60, 60))
		kept := cloned(all)
		for length := range 6 {
			osds, allOsds := roomy([]int{4, 0, 3, 1, 2}[:length], -9)
			keptOsds := slices.Clone(allOsds)
			best, started := choose.Best(osds, l), choose.Started(l)
			if choose.Best(osds, l) != best || choose.Started(l) != started {
				t.Errorf("rule 6: of %d rows and %d daemons: asked again it is another one", len(rows), length)
			}
			if !slices.Equal(allOsds, keptOsds) || !slices.EqualFunc(all, kept, alike) {
				t.Errorf("rule 3: of %d rows and %d daemons: what was handed in, or the room around it, was turned", len(rows), length)
			}
			if !slices.EqualFunc(logs, keptLogs, slices.Equal) {
				t.Errorf("rule 3: of %d rows and %d daemons: a log, or the room around it, was turned", len(rows), length)
			}
		}
	}
}
