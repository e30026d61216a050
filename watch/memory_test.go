package watch_test

import (
	"slices"
	"testing"

	"paddock/watch"
)

// spoil writes over a list and all the room behind it, as whoever was given it may.
func spoil(l []int) {
	l = l[:cap(l)]
	for i := range l {
		l[i] = 3
	}
}

// TestWhatIsHandedInStays: in order and in number, with what lies ahead of it and in the room behind it.
func TestWhatIsHandedInStays(t *testing.T) {
	for _, row := range [][]int{nil, {}, {4}, {4, 1, 4, -1, 5}, {0, 1, 2, 3, 4}, {4, 3, 2, 1, 0}, strangers()} {
		all := slices.Concat([]int{7}, row, []int{8, 9})
		before := slices.Clone(all)
		w, p := watch.New(), past(nil)
		for range span + 1 {
			p = p.ticks(t, "P17.1", w, all[1:1+len(row)])
			if !slices.Equal(all, before) {
				t.Fatalf("rule 3: %v became %v", before, all)
			}
		}
	}
}

// TestWhatIsHandedInIsNotKept: what becomes of it is nothing to the Watch.
func TestWhatIsHandedInIsNotKept(t *testing.T) {
	w, p := watch.New(), past(nil)
	waited := make([]int, 2, 9)
	for range 3 * span {
		copy(waited, []int{4, 1})
		p = p.ticks(t, "P17.1", w, waited)
		spoil(waited)
		if err := p.counts(w); err != nil {
			t.Fatalf("rule 3: the row is written over: %v", err)
		}
	}
}

// TestWhatTickTellsIsNew: of a row that was handed in, of another answer, and of what is kept.
func TestWhatTickTellsIsNew(t *testing.T) {
	waited := daemons()
	w, p := watched(t, span-1, waited)
	first := w.Tick(waited)
	p = append(p, waited)
	spoil(first)
	if !slices.Equal(waited, daemons()) {
		t.Errorf("rule 3: what is told is what was handed in: %v", waited)
	}
	if err := p.counts(w); err != nil {
		t.Errorf("rule 3: what was told is written over: %v", err)
	}
	for range span - 1 {
		p = p.ticks(t, "P17.1", w, waited)
	}
	second := w.Tick(waited)
	spoil(first)
	if !slices.Equal(second, daemons()) {
		t.Errorf("rule 3: two that are told share memory: %v", second)
	}
}

// TestWhatOfTellsIsNew: also of the same daemon, asked twice.
func TestWhatOfTellsIsNew(t *testing.T) {
	r, s := reported(t, []report{{1, 0}, {2, 1}, {4, 2}, {0, 3}, {0, 4}})
	for _, about := range daemons() {
		first, second := r.Of(about), r.Of(about)
		spoil(first)
		if !slices.Equal(second, s.of(about)) {
			t.Errorf("rule 3: Of(%d), asked twice, shares memory: %v", about, second)
		}
		if err := s.tells(r); err != nil {
			t.Errorf("rule 3: what Of(%d) told is written over: %v", about, err)
		}
	}
	s.adds(t, "P17.2", r, report{3, 1})
}

// TestWhatWasToldStays: later calls don't write into it.
func TestWhatWasToldStays(t *testing.T) {
	r, s := reported(t, []report{{1, 4}})
	l := r.Of(4)
	s = s.adds(t, "P17.2", r, report{2, 4})
	s = s.adds(t, "P17.2", r, report{3, 4})
	s.clears(t, "P17.2", r, 4)
	if !slices.Equal(l, []int{1}) {
		t.Errorf("rule 3: what Of told became %v", l)
	}
	w, p := watched(t, span-1, []int{2, 4})
	told := w.Tick([]int{2, 4})
	p = append(p, []int{2, 4})
	for range span {
		p = p.ticks(t, "P17.1", w, []int{1, 3})
	}
	if !slices.Equal(told, []int{2, 4}) {
		t.Errorf("rule 3: what Tick told became %v", told)
	}
}

// TestOneIsNothingToAnother: each goes its own way, whatever another one is told.
func TestOneIsNothingToAnother(t *testing.T) {
	a, b := watch.New(), watch.New()
	pa, pb := past(nil), past(nil)
	for tick := range 3 * span {
		pa = pa.ticks(t, "rule 6: one", a, daemons()[:tick%5])
		pb = pb.ticks(t, "rule 6: the other one", b, daemons()[2:])
	}
	r, q := watch.NewReports(), watch.NewReports()
	sr, sq := said(nil), said(nil)
	for turn := range 30 {
		sr = sr.adds(t, "rule 6: one", r, report{turn % 5, turn % 3})
		sq = sq.adds(t, "rule 6: the other one", q, report{turn % 4, 4})
		if err := sr.tells(r); err != nil {
			t.Fatalf("rule 6: %v", err)
		}
	}
}

// TestToldAlike: the order of a row, what is there twice, and what is no daemon are nothing to what is told.
func TestToldAlike(t *testing.T) {
	a, b := watch.New(), watch.New()
	for tick := range 4 * span {
		row := crowd(tick*7%32|0b10010, 0)
		other := slices.Concat(strangers(), row, row)
		slices.Reverse(other)
		if l, m := a.Tick(row), b.Tick(other); !slices.Equal(l, m) {
			t.Fatalf("rule 6: tick %d: %v, %v", tick, l, m)
		}
		for _, osd := range daemons() {
			if a.Count(osd) != b.Count(osd) {
				t.Fatalf("rule 6: tick %d: Count(%d): %d, %d", tick, osd, a.Count(osd), b.Count(osd))
			}
		}
	}
}
