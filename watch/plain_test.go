package watch_test

import (
	"fmt"
	"math"
	"slices"
	"testing"

	"paddock/api"
	"paddock/watch"
)

// span: with so many ticks a daemon is told.
const span = 2 * api.Patience

// daemons: all of them, rising.
func daemons() []int {
	l := make([]int, api.Osds)
	for osd := range l {
		l[osd] = osd
	}
	return l
}

// strangers: numbers that are no daemon's, and some of them a daemon's in fewer bits.
func strangers() []int {
	return []int{-1, -2, -api.Osds, api.Osds, api.Osds + 1, 10, 14, 1 << 8, 1<<8 + 4, 1<<16 + 1, 1<<32 + 2, -1 << 8, -1 << 32, -1<<32 + 3, 1<<62 + 1, math.MinInt, math.MinInt + 4, math.MaxInt, math.MaxInt - 1}
}

func isDaemon(n int) bool { return slices.Contains(daemons(), n) }

// past: who was waited for at each tick. Of a Watch nothing else is asked: all that it tells can be counted there.
type past [][]int

// run: for how many ticks on end, up to the last one, a daemon was waited for.
func (p past) run(osd int) int {
	for back := range p {
		if !slices.Contains(p[len(p)-1-back], osd) {
			return back
		}
	}
	return len(p)
}

// count and told: what the chapter says of a daemon behind the last tick, in which it was told if its run is so many spans long.
func (p past) count(osd int) int {
	if !isDaemon(osd) {
		return 0
	}
	return p.run(osd) % span
}

func (p past) told() []int {
	var l []int
	for _, osd := range daemons() {
		if p.run(osd) > 0 && p.run(osd)%span == 0 {
			l = append(l, osd)
		}
	}
	return l
}

// counts holds a Watch's counters, of what is no daemon too, against the past.
func (p past) counts(w *watch.Watch) error {
	for _, osd := range append(daemons(), strangers()...) {
		if n := w.Count(osd); n != p.count(osd) {
			return fmt.Errorf("Count(%d) is %d, not %d, behind %d ticks", osd, n, p.count(osd), len(p))
		}
	}
	return nil
}

// ticks holds one Tick and all counters behind it against the past, and answers that with the tick.
func (p past) ticks(t *testing.T, promise string, w *watch.Watch, waited []int) past {
	t.Helper()
	p = append(p, slices.Clone(waited))
	if l := w.Tick(waited); !slices.Equal(l, p.told()) {
		t.Fatalf("%s: tick %d, of %v: told %v, not %v", promise, len(p), waited, l, p.told())
	}
	if err := p.counts(w); err != nil {
		t.Fatalf("%s: tick %d, of %v: %v", promise, len(p), waited, err)
	}
	return p
}

// watched: a Watch, and its past, behind so many ticks of these.
func watched(t *testing.T, n int, waited []int) (*watch.Watch, past) {
	t.Helper()
	w, p := watch.New(), past(nil)
	for range n {
		p = p.ticks(t, "P17.1", w, waited)
	}
	return w, p
}

// report: from one daemon about another one.
type report struct{ from, about int }

func (c report) String() string { return fmt.Sprintf("%d about %d", c.from, c.about) }

func (c report) right() bool { return isDaemon(c.from) && isDaemon(c.about) && c.from != c.about }

// said: the reports that aren't forgotten, in the order in which they came, each as often as it came.
type said []report

// of: who has reported about a daemon, rising.
func (s said) of(about int) []int {
	var l []int
	for _, c := range s {
		if c.about == about {
			l = append(l, c.from)
		}
	}
	slices.Sort(l)
	return slices.Compact(l)
}

// without: what is left when all about a daemon is forgotten. It is never written into what there was.
func (s said) without(about int) said {
	var l said
	for _, c := range s {
		if c.about != about {
			l = append(l, c)
		}
	}
	return l
}

// add: what the chapter says of a report: what is left behind it, what is told.
func (s said) add(c report) (said, bool) {
	if !c.right() {
		return s, false
	}
	with := append(slices.Clone(s), c)
	if len(with.of(c.about)) < 2 {
		return with, false
	}
	return s.without(c.about), true
}

// tells holds all that Reports tell, of what is no daemon too, against what was said.
func (s said) tells(r *watch.Reports) error {
	for _, about := range append(daemons(), strangers()...) {
		if l := r.Of(about); !slices.Equal(l, s.of(about)) {
			return fmt.Errorf("Of(%d) is %v, not %v", about, l, s.of(about))
		}
	}
	return nil
}

// adds and clears hold a call, and all that is told behind it, against what was said, and answer what is left of that.
func (s said) adds(t *testing.T, promise string, r *watch.Reports, c report) said {
	t.Helper()
	left, want := s.add(c)
	if is := r.Add(c.from, c.about); is != want {
		t.Fatalf("%s: Add of %v, behind %v: %v", promise, c, s, is)
	}
	if err := left.tells(r); err != nil {
		t.Fatalf("%s: Add of %v, behind %v: %v", promise, c, s, err)
	}
	return left
}

func (s said) clears(t *testing.T, promise string, r *watch.Reports, about int) said {
	t.Helper()
	r.Clear(about)
	left := s.without(about)
	if err := left.tells(r); err != nil {
		t.Fatalf("%s: Clear(%d), behind %v: %v", promise, about, s, err)
	}
	return left
}

// reported: Reports that heard all of these, and what is left of them.
func reported(t *testing.T, l []report) (*watch.Reports, said) {
	t.Helper()
	r, s := watch.NewReports(), said(nil)
	for _, c := range l {
		s = s.adds(t, "P17.2", r, c)
	}
	return r, s
}
