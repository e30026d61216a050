package watch_test

import (
	"slices"
	"testing"

	"paddock/api"
	"paddock/watch"
)

// TestTickOfStrangers: what is no daemon has no ticks and is never told, alone or among daemons; those that are there count as ever.
func TestTickOfStrangers(t *testing.T) {
	w, p := watch.New(), past(nil)
	for range 2 * span {
		p = p.ticks(t, "P17.1: strangers alone", w, strangers())
	}
	for _, stranger := range strangers() {
		w, p := watch.New(), past(nil)
		for range 2 * span {
			p = p.ticks(t, "P17.1: a stranger alone", w, []int{stranger})
		}
		for range 2*span + 1 {
			p = p.ticks(t, "P17.1: a stranger among daemons", w, []int{4, stranger, 0, stranger})
		}
	}
}

// TestStrangersLeaveOut: a tick of nothing but what is no daemon is one of none.
func TestStrangersLeaveOut(t *testing.T) {
	w, p := watched(t, span-1, daemons())
	p = p.ticks(t, "P17.1", w, strangers())
	for _, osd := range daemons() {
		if w.Count(osd) != 0 {
			t.Errorf("P17.1: daemon %d has %d", osd, w.Count(osd))
		}
	}
}

// TestTwiceInOneRow: however often a daemon is there, it is one tick.
func TestTwiceInOneRow(t *testing.T) {
	for _, times := range []int{2, 3, span, span + 1, 1 << 12} {
		waited := slices.Repeat([]int{3}, times)
		waited = append(waited, 1, 1)
		w, p := watch.New(), past(nil)
		for tick := range span + 1 {
			p = p.ticks(t, "P17.1: twice", w, waited)
			if want := (tick + 1) % span; w.Count(3) != want || w.Count(1) != want {
				t.Fatalf("P17.1: %d times in a row: Count %d, %d behind %d ticks", times, w.Count(3), w.Count(1), tick+1)
			}
		}
	}
}

func TestCountOfStrangers(t *testing.T) {
	w, _ := watched(t, span-1, append(daemons(), strangers()...))
	for _, stranger := range strangers() {
		if n := w.Count(stranger); n != 0 {
			t.Errorf("P17.1: Count(%d) is %d", stranger, n)
		}
	}
}

// wrong: reports that are none: from, about what is no daemon, or about oneself.
func wrong() []report {
	var l []report
	for _, stranger := range strangers() {
		l = append(l, report{stranger, stranger})
		for _, osd := range daemons() {
			l = append(l, report{stranger, osd}, report{osd, stranger})
		}
		for _, other := range strangers() {
			l = append(l, report{stranger, other})
		}
	}
	for _, osd := range daemons() {
		l = append(l, report{osd, osd})
	}
	return l
}

// TestAddOfWhatIsNone is false and changes nothing, with reports there and with none.
func TestAddOfWhatIsNone(t *testing.T) {
	for _, row := range [][]report{nil, {{0, 4}}, {{1, 0}, {2, 1}, {3, 2}, {4, 3}, {0, 4}}} {
		r, s := reported(t, row)
		for _, c := range wrong() {
			for range 2 {
				s = s.adds(t, "P17.2: no report", r, c)
			}
		}
		if len(s) != len(row) {
			t.Errorf("P17.2: %v of %v are left", s, row)
		}
	}
}

// TestTheSameReporterAgain is one, however often it comes, with what is no report in between.
func TestTheSameReporterAgain(t *testing.T) {
	for _, from := range daemons() {
		about := (from + 1) % api.Osds
		r, s := watch.NewReports(), said(nil)
		for _, c := range wrong() {
			s = s.adds(t, "P17.3", r, report{from, about})
			s = s.adds(t, "P17.2", r, c)
			if l := r.Of(about); !slices.Equal(l, []int{from}) {
				t.Fatalf("P17.2: %d about %d again, and %v: %v", from, about, c, l)
			}
		}
	}
}

// TestClearAndOfStrangers: nothing is forgotten, nobody is told.
func TestClearAndOfStrangers(t *testing.T) {
	for _, row := range [][]report{nil, {{1, 0}, {2, 1}, {3, 2}, {4, 3}, {0, 4}}} {
		r, s := reported(t, row)
		for _, stranger := range strangers() {
			s = s.clears(t, "P17.2: of a stranger", r, stranger)
			if l := r.Of(stranger); len(l) != 0 {
				t.Errorf("P17.2: Of(%d) is %v", stranger, l)
			}
		}
		if len(s) != len(row) {
			t.Errorf("P17.2: %v of %v are left", s, row)
		}
	}
}
