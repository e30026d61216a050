package watch_test

import (
	"fmt"
	"math/rand/v2"
	"slices"
	"testing"

	"paddock/api"
	"paddock/watch"
)

// crowd: the daemons whose bit is set, from that one on.
func crowd(bits, from int) []int {
	var l []int
	for i := range api.Osds {
		if osd := (from + i) % api.Osds; bits>>osd&1 == 1 {
			l = append(l, osd)
		}
	}
	return l
}

// TestAllCrowds: each set of daemons behind each number of ticks of each other set; then that one again.
func TestAllCrowds(t *testing.T) {
	const crowds = 1 << api.Osds
	for first := range crowds {
		for second := range crowds {
			for _, n := range []int{0, 1, span - 2, span - 1, span} {
				w, p := watched(t, n, crowd(first, second))
				for _, bits := range []int{second, first, second} {
					p = p.ticks(t, "P17.1", w, crowd(bits, first))
				}
			}
		}
	}
}

// TestAllRowsOfOne: whether one daemon is waited for or not at each of some ticks, in all ways, while the others play other ways.
func TestAllRowsOfOne(t *testing.T) {
	const length = span + 3
	for row := range 1 << length {
		w, p := watch.New(), past(nil)
		for tick := range length {
			var waited []int
			for osd := range api.Osds {
				if (row^osd*0b101)>>((tick+osd)%length)&1 == 1 {
					waited = append(waited, osd)
				}
			}
			p = append(p, waited)
			if l := w.Tick(waited); !slices.Equal(l, p.told()) {
				t.Fatalf("P17.1: row %b, tick %d, of %v: told %v, not %v", row, tick, waited, l, p.told())
			}
			for osd := range api.Osds {
				if w.Count(osd) != p.count(osd) {
					t.Fatalf("P17.1: row %b, tick %d: Count(%d) is %d, not %d", row, tick, osd, w.Count(osd), p.count(osd))
				}
			}
		}
	}
}

// someone: mostly a daemon, at times anything.
func someone(g *rand.Rand) int {
	if g.IntN(9) == 0 {
		if g.IntN(2) == 0 {
			return int(g.Uint64())
		}
		return strangers()[g.IntN(len(strangers()))]
	}
	return g.IntN(api.Osds)
}

// TestLongRowsOfTicks: in any order, with some twice and what is no daemon among them; some daemons nearly always.
func TestLongRowsOfTicks(t *testing.T) {
	told := 0
	for seed := range uint64(40) {
		g := rand.New(rand.NewPCG(seed, 17))
		w, p := watch.New(), past(nil)
		for range 400 {
			var waited []int
			for osd := range api.Osds {
				if g.IntN(4+6*osd) != 0 {
					waited = append(waited, osd)
				}
			}
			for range g.IntN(4) {
				if n := someone(g); !isDaemon(n) || slices.Contains(waited, n) {
					waited = append(waited, n)
				}
			}
			g.Shuffle(len(waited), func(i, j int) { waited[i], waited[j] = waited[j], waited[i] })
			p = p.ticks(t, fmt.Sprintf("P17.1: seed %d", seed), w, waited)
			told += len(p.told())
		}
	}
	if told < 1000 {
		t.Errorf("too few were told for a test: %d", told)
	}
}

// key: what was said, as far as it can be told.
func (s said) key() [api.Osds]int {
	var k [api.Osds]int
	for about := range k {
		for _, from := range s.of(about) {
			k[about] += 1 << from
		}
	}
	return k
}

// reach: for each thing that Reports can hold a row of reports that comes to it.
func reach() []said {
	rows := []said{nil}
	for about := range api.Osds {
		for _, s := range slices.Clone(rows) {
			for from := range api.Osds {
				if from != about {
					rows = append(rows, append(slices.Clone(s), report{from, about}))
				}
			}
		}
	}
	return rows
}

// TestEachCallBehindEachThing: whatever Reports can hold, each call does what the chapter says, and what they can hold they come to.
func TestEachCallBehindEachThing(t *testing.T) {
	rows := reach()
	seen := map[[api.Osds]int]int{}
	for _, row := range rows {
		seen[row.key()]++
		for from := -1; from <= api.Osds; from++ {
			for about := -1; about <= api.Osds; about++ {
				r, s := reported(t, row)
				s.adds(t, "P17.2", r, report{from, about})
			}
		}
		for about := -1; about <= api.Osds; about++ {
			r, s := reported(t, row)
			s.clears(t, "P17.2", r, about)
		}
	}
	if len(rows) != 3125 || len(seen) != len(rows) {
		t.Errorf("%d rows come to %d things", len(rows), len(seen))
	}
}

// TestAllShortRowsOfReports: of all reports about two daemons, and of both Clears, six in a row.
func TestAllShortRowsOfReports(t *testing.T) {
	var calls []report
	for _, about := range []int{0, 4} {
		for _, from := range []int{4, 1, 0} {
			calls = append(calls, report{from, about})
		}
	}
	kinds := len(calls) + 2
	n := 1
	for range 6 {
		n *= kinds
	}
	for row := range n {
		r, s := watch.NewReports(), said(nil)
		for left, turn := row, 0; turn < 6; left, turn = left/kinds, turn+1 {
			i := left % kinds
			if i >= len(calls) {
				about := (i - len(calls)) * 4
				r.Clear(about)
				s = s.without(about)
				continue
			}
			next, want := s.add(calls[i])
			if is := r.Add(calls[i].from, calls[i].about); is != want {
				t.Fatalf("P17.2: row %d: %v, behind %v: %v", row, calls[i], s, is)
			}
			s = next
		}
		for _, about := range []int{0, 4} {
			if l := r.Of(about); !slices.Equal(l, s.of(about)) {
				t.Fatalf("P17.2: row %d: Of(%d) is %v, not %v", row, about, l, s.of(about))
			}
		}
	}
}

// TestLongRowsOfReports: of anybody about anybody, with what is forgotten; each that is true had two since it was last forgotten.
func TestLongRowsOfReports(t *testing.T) {
	condemned := 0
	for seed := range uint64(40) {
		g := rand.New(rand.NewPCG(seed, 18))
		promise := fmt.Sprintf("P17.2: seed %d", seed)
		r, s := watch.NewReports(), said(nil)
		for range 400 {
			if g.IntN(12) == 0 {
				s = s.clears(t, promise, r, someone(g))
				continue
			}
			c := report{someone(g), someone(g)}
			before := s.of(c.about)
			s = s.adds(t, promise, r, c)
			if c.right() && len(s.of(c.about)) == 0 {
				condemned++
				if len(before) != 1 || before[0] == c.from {
					t.Fatalf("P17.3: %v alone condemns, behind %v", c, before)
				}
			}
		}
	}
	if condemned < 1000 {
		t.Errorf("too few were condemned for a test: %d", condemned)
	}
}
