package watch_test

import (
	"slices"
	"testing"

	"paddock/watch"
)

func TestANewWatch(t *testing.T) {
	for range 2 {
		w := watch.New()
		if w == nil {
			t.Fatal("P17.1: New is nil")
		}
		if err := past(nil).counts(w); err != nil {
			t.Errorf("P17.1: a new one: %v", err)
		}
		if l := w.Tick(nil); len(l) != 0 {
			t.Errorf("P17.1: Tick of none tells %v", l)
		}
		for range 3 { // nothing that the next new one has
			w.Tick(daemons())
		}
	}
}

// TestOneThatNewDidNotGive is a new one too.
func TestOneThatNewDidNotGive(t *testing.T) {
	var w watch.Watch
	p := past(nil)
	for range span + 1 {
		p = p.ticks(t, "rule 1", &w, daemons())
	}
}

// TestTheNumbers: written out, since all other tests take them from the limits.
func TestTheNumbers(t *testing.T) {
	w := watch.New()
	for tick := 1; tick <= 9; tick++ {
		if l := w.Tick([]int{0, 4}); len(l) != 0 || w.Count(0) != tick || w.Count(4) != tick || w.Count(2) != 0 {
			t.Fatalf("P17.1: tick %d: %v, %d, %d, %d", tick, l, w.Count(0), w.Count(4), w.Count(2))
		}
	}
	if l := w.Tick([]int{4, 0}); !slices.Equal(l, []int{0, 4}) || w.Count(0) != 0 || w.Count(4) != 0 {
		t.Errorf("P17.1: tick 10: %v, %d, %d", l, w.Count(0), w.Count(4))
	}
}

// TestWaitedForAtEachTick: told at the end of each span, and at no other tick; each daemon, the first one and the last one among them, alone.
func TestWaitedForAtEachTick(t *testing.T) {
	for _, osd := range daemons() {
		w := watch.New()
		for tick := 1; tick <= 4*span; tick++ {
			var want []int
			if tick%span == 0 {
				want = []int{osd}
			}
			if l := w.Tick([]int{osd}); !slices.Equal(l, want) {
				t.Errorf("P17.1: daemon %d, tick %d: told %v", osd, tick, l)
			}
			for _, other := range daemons() {
				if n := w.Count(other); other != osd && n != 0 || other == osd && n != tick%span {
					t.Errorf("P17.1: daemon %d, tick %d: Count(%d) is %d", osd, tick, other, n)
				}
			}
		}
	}
}

// TestLeftOut: for a tick, behind any number of them, the last one ahead of the span's end too: it begins anew, and takes a whole span to be told.
func TestLeftOut(t *testing.T) {
	for _, osd := range daemons() {
		others := slices.DeleteFunc(daemons(), func(n int) bool { return n == osd })
		for n := range 2*span + 2 {
			for _, waited := range [][]int{nil, others} {
				w, p := watched(t, n, daemons())
				p = p.ticks(t, "P17.1: left out", w, waited)
				if w.Count(osd) != 0 {
					t.Fatalf("P17.1: daemon %d, left out behind %d ticks, has %d", osd, n, w.Count(osd))
				}
				for tick := 1; tick <= span; tick++ {
					p = p.ticks(t, "P17.1: anew", w, []int{osd})
					if told := len(p.told()) > 0; told != (tick == span) {
						t.Fatalf("P17.1: daemon %d, tick %d anew: told: %v", osd, tick, told)
					}
				}
			}
		}
	}
}

// TestTickOfNone: all have none again, whoever had some.
func TestTickOfNone(t *testing.T) {
	for _, none := range [][]int{nil, {}} {
		for n := range span {
			w, p := watched(t, n, daemons())
			p = p.ticks(t, "P17.1: of none", w, none)
			p = p.ticks(t, "P17.1: of none", w, none)
			p.ticks(t, "P17.1: behind none", w, daemons())
		}
	}
}

// TestAllInOneTick: told rising, whatever order they are waited for in.
func TestAllInOneTick(t *testing.T) {
	for _, order := range [][]int{{0, 1, 2, 3, 4}, {4, 3, 2, 1, 0}, {2, 4, 0, 3, 1}} {
		w, p := watched(t, span-1, order)
		if l := w.Tick(order); !slices.Equal(l, []int{0, 1, 2, 3, 4}) {
			t.Errorf("P17.1: all at once: told %v", l)
		}
		p = append(p, order)
		if err := p.counts(w); err != nil {
			t.Errorf("P17.1: all at once: %v", err)
		}
	}
}

// TestOneBehindTheOther: daemons that are waited for from unlike ticks on are told at unlike ones.
func TestOneBehindTheOther(t *testing.T) {
	for _, order := range [][]int{{0, 1, 2, 3, 4}, {4, 3, 2, 1, 0}, {2, 4, 0, 3, 1}} {
		w, p := watch.New(), past(nil)
		for tick := range 3 * span {
			first := min(tick+1, len(order))
			p = p.ticks(t, "P17.1", w, order[:first])
			var want []int
			if i := (tick + 1) % span; tick+1 >= span && i < len(order) {
				want = []int{order[i]}
			}
			if !slices.Equal(p.told(), want) {
				t.Fatalf("P17.1: order %v, tick %d: told %v, not %v", order, tick+1, p.told(), want)
			}
		}
	}
}

// TestCountTells: it changes nothing, however often it is asked.
func TestCountTells(t *testing.T) {
	w, p := watched(t, span-1, []int{1, 3})
	for range 3 * span {
		if err := p.counts(w); err != nil {
			t.Fatalf("P17.1: asked again: %v", err)
		}
	}
	p.ticks(t, "P17.1: behind Count", w, []int{1})
}
