package choose_test

import (
	"math/rand/v2"
	"slices"
	"testing"

	"paddock/api"
	"paddock/choose"
	"paddock/history"
	"paddock/maps"
	"paddock/pglog"
)

// daemon: what it stores, and beside it all entries that ever came to be in that.
type daemon struct {
	s   api.State
	all []api.Entry
}

// add puts the next entry behind what a daemon has.
func (d *daemon) add(t *testing.T, e api.Entry) {
	t.Helper()
	s, err := pglog.Add(d.s, e)
	if err != api.OK {
		t.Fatalf("Add of %+v: %v", e, err)
	}
	d.s, d.all = s, append(d.all[:len(d.all):len(d.all)], e)
}

// town: one group on all daemons, while maps come and go; and what was acknowledged so far.
type town struct {
	r       *rand.Rand
	h       *history.History
	group   uint8
	daemons [api.Osds]daemon
	acked   []api.Entry
	seq     uint32
}

// counts: how often things came to pass, so that nothing is shown by what never did.
type counts struct{ chosen, refused, saved, grown int }

// heard: whoever was heard, by chance; the primary hears itself always.
func (w *town) heard() ([]int, []api.State) {
	m, _ := w.h.Map(w.h.Last())
	primary := w.h.Acting(w.group)[0]
	hears := 1 + w.r.IntN(4)
	var osds []int
	for _, osd := range maps.Up(m) {
		if osd == primary || w.r.IntN(4) < hears {
			osds = append(osds, osd)
		}
	}
	w.r.Shuffle(len(osds), func(i, k int) { osds[i], osds[k] = osds[k], osds[i] })
	var l []api.State
	for _, osd := range osds {
		l = append(l, w.daemons[osd].s)
	}
	return osds, l
}

// knows tells whether all that was acknowledged is at its place in what a daemon has.
func (w *town) knows(osd int) bool {
	d := w.daemons[osd]
	return len(d.all) >= len(w.acked) && slices.Equal(d.all[:len(w.acked)], w.acked)
}

// push makes others that act like the chosen one, some of them by chance; it tells whether all are.
func (w *town) push(chosen daemon) bool {
	acting := w.h.Acting(w.group)
	chosen.s.Started = w.h.Since(w.group)
	w.daemons[acting[0]] = chosen
	reaches := w.r.IntN(3)
	all := true
	for _, osd := range acting[1:] {
		if w.r.IntN(2) < reaches {
			w.daemons[osd] = chosen
		} else {
			all = false
		}
	}
	return all
}

// serve has the primary take entries, and the others some of them each; what all have is acknowledged.
func (w *town) serve(t *testing.T) {
	acting := w.h.Acting(w.group)
	first := &w.daemons[acting[0]]
	begin := len(first.all)
	for range w.r.IntN(4) {
		w.seq++
		_, n := pglog.Head(first.s)
		first.add(t, api.Entry{Since: w.h.Since(w.group), N: n + 1, Op: write(w.seq, "x")})
	}
	least := len(first.all)
	for _, osd := range acting[1:] {
		took := begin + w.r.IntN(len(first.all)-begin+1)
		for _, e := range first.all[begin:took] {
			w.daemons[osd].add(t, e)
		}
		least = min(least, took)
	}
	w.acked = first.all[:least]
}

// round: who acts now begins, as far as it is let.
func (w *town) round(t *testing.T, c *counts) {
	t.Helper()
	if !choose.Serves(w.h, w.group) {
		return
	}
	osds, l := w.heard()
	best := choose.Best(osds, l)
	if best < 0 {
		t.Fatalf("P9.1: Best of %v: %d", osds, best)
	}
	knows := w.knows(osds[best])
	if !choose.Enough(w.h, w.group, osds, choose.Started(l)) {
		c.refused++
		if !knows {
			c.saved++
		}
		return
	}
	c.chosen++
	if !knows {
		t.Fatalf("P9.3: group %d of %v: heard %v: %d of them is to count, and hasn't what was acknowledged: %v, not %v",
			w.group, w.h.Intervals(w.group), osds, best, w.daemons[osds[best]].all, w.acked)
	}
	if w.push(w.daemons[osds[best]]) {
		before := len(w.acked)
		w.serve(t)
		c.grown += len(w.acked) - before
	}
}

// TestWhateverMayHaveBeenAcknowledgedWasHeardOf: whenever enough was heard, the state that counts has all that was acknowledged until then.
func TestWhateverMayHaveBeenAcknowledgedWasHeardOf(t *testing.T) {
	var c counts
	for seed := range uint64(150) {
		for group := range uint8(api.Groups) {
			w := town{r: rand.New(rand.NewPCG(seed, 93)), h: history.New(), group: group}
			for w.h.Last() < 40 {
				for range w.r.IntN(3) {
					w.round(t, &c)
				}
				if e := w.h.Add(w.h.Last()+1, anyInc(w.r)); e != api.OK {
					t.Fatalf("Add: %v", e)
				}
			}
		}
	}
	if c.chosen < 2000 || c.refused < 2000 || c.saved < 100 || c.grown < 2000 {
		t.Errorf("too little came to pass: %+v", c)
	}
}

// mayHave: the intervals in which something may have been acknowledged that a state of that start doesn't bear.
func mayHave(l []api.Interval, started uint32) []api.Interval {
	var found []api.Interval
	for _, x := range l {
		if len(x.Acting) >= 2 && x.Since >= started {
			found = append(found, x)
		}
	}
	return found
}

// TestEnoughHearsOneOfEachIntervalThatServed: whatever the row, whoever is heard.
func TestEnoughHearsOneOfEachIntervalThatServed(t *testing.T) {
	enough := 0
	for seed := range uint64(10) {
		l := row(12, 200+seed)
		h := grown(t, l...)
		for group := range uint8(api.Groups) {
			intervals := worked(l, group)
			for _, heard := range subsets() {
				for _, started := range []uint32{0, 1, 4, 9, 13} {
					if !choose.Enough(h, group, heard, started) {
						continue
					}
					enough++
					for _, x := range mayHave(intervals, started) {
						if !slices.ContainsFunc(x.Acting, func(osd int) bool { return slices.Contains(heard, osd) }) {
							t.Fatalf("P9.3: group %d of %v: heard %v, started %d: nobody of %v", group, intervals, heard, started, x)
						}
					}
				}
			}
		}
	}
	if enough < 1000 {
		t.Errorf("only %d were enough", enough)
	}
}

// TestAnAcknowledgedEntryIsNotLost: 4, 3 and 2 acknowledged one entry; then 4 and 3 one more, while 2 was down.
func TestAnAcknowledgedEntryIsNotLost(t *testing.T) {
	h := grown(t, down(2), down(3), down(4), up(2), up(3))
	if got, want := h.Intervals(0), []api.Interval{at(1, 4, 3, 2), at(2, 4, 3), at(3, 4), at(4), at(5, 2), at(6, 3, 2)}; !sameIntervals(got, want) {
		t.Fatalf("intervals: %v, not %v", got, want)
	}
	one := logged(1, 1, 1, 1)
	two := bent(one, func(s *api.State) {
		s.Started = 2
		s.Log = append(s.Log, api.Entry{Since: 2, N: 2, Op: write(2, "b")})
	})
	if choose.Enough(h, 0, []int{2}, choose.Started([]api.State{one})) {
		t.Error("P9.3: 2 alone is enough")
	}
	if got := choose.Lacks(h, 0, []int{2}, choose.Started([]api.State{one})); !sameIntervals(got, []api.Interval{at(2, 4, 3)}) {
		t.Errorf("P9.3: 2 alone lacks %v", got)
	}
	osds, l := []int{2, 3}, []api.State{one, two}
	if !choose.Enough(h, 0, osds, choose.Started(l)) {
		t.Error("P9.3: 2 and 3 aren't enough")
	}
	if got := choose.Best(osds, l); got != 1 {
		t.Errorf("P9.3: of 2 and 3 place %d is to count", got)
	}
}
