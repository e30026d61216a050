package watch_test

import (
	"slices"
	"testing"

	"paddock/api"
	"paddock/watch"
)

func TestNewReports(t *testing.T) {
	for range 2 {
		r := watch.NewReports()
		if r == nil {
			t.Fatal("P17.2: NewReports is nil")
		}
		if err := said(nil).tells(r); err != nil {
			t.Errorf("P17.2: new ones: %v", err)
		}
		for _, about := range daemons() { // nothing that the next new ones have
			r.Add((about+1)%api.Osds, about)
		}
	}
}

// TestReportsThatNewReportsDidNotGive are new ones too.
func TestReportsThatNewReportsDidNotGive(t *testing.T) {
	var r watch.Reports
	s := said(nil).adds(t, "rule 1", &r, report{3, 4})
	s = s.adds(t, "rule 1", &r, report{2, 4})
	s.clears(t, "rule 1", &r, 4)
}

// TestTheExample: two reports of two: true.
func TestTheExample(t *testing.T) {
	r := watch.NewReports()
	if r.Add(0, 4) || !slices.Equal(r.Of(4), []int{0}) {
		t.Errorf("P17.2: one report: %v", r.Of(4))
	}
	if !r.Add(3, 4) || len(r.Of(4)) != 0 {
		t.Errorf("P17.2: two reports of two: %v", r.Of(4))
	}
}

// TestTheSecondReporter: of any two about any third: the second one makes it true, and all about it is forgotten, so that it takes two again.
func TestTheSecondReporter(t *testing.T) {
	for _, about := range daemons() {
		for _, first := range daemons() {
			for _, second := range daemons() {
				if first == about || second == about || first == second {
					continue
				}
				r := watch.NewReports()
				for range 3 {
					if r.Add(first, about) || !slices.Equal(r.Of(about), []int{first}) {
						t.Fatalf("P17.2: %d about %d: %v", first, about, r.Of(about))
					}
					if !r.Add(second, about) || len(r.Of(about)) != 0 {
						t.Fatalf("P17.2: %d, then %d about %d: %v", first, second, about, r.Of(about))
					}
				}
				if r.Add(second, about) || !slices.Equal(r.Of(about), []int{second}) {
					t.Fatalf("P17.2: %d about %d, forgotten once: %v", second, about, r.Of(about))
				}
			}
		}
	}
}

// TestOnlyWhatIsAboutItIsForgotten: what the same ones, and the condemned one, said about others stays.
func TestOnlyWhatIsAboutItIsForgotten(t *testing.T) {
	l := []report{{1, 4}, {1, 3}, {0, 2}, {4, 0}, {2, 1}}
	r, s := reported(t, l)
	s = s.adds(t, "P17.2", r, report{0, 4})
	for about, want := range [][]int{{4}, {2}, {0}, {1}, nil} {
		if l := r.Of(about); !slices.Equal(l, want) {
			t.Errorf("P17.2: 4 is condemned: Of(%d) is %v, not %v", about, l, want)
		}
	}
	for _, c := range []report{{0, 3}, {4, 2}, {1, 0}, {3, 1}} {
		if !r.Add(c.from, c.about) {
			t.Errorf("P17.2: %v isn't the second one", c)
		}
	}
	if err := said(nil).tells(r); err != nil {
		t.Errorf("P17.2: all are condemned: %v", err)
	}
}

// TestClear: it forgets what is about that daemon, whoever said it, and nothing about others, nor what that one said.
func TestClear(t *testing.T) {
	l := []report{{1, 0}, {2, 1}, {3, 2}, {4, 3}, {0, 4}}
	for _, about := range daemons() {
		r, s := reported(t, l)
		s = s.clears(t, "P17.2", r, about)
		if len(s) != len(l)-1 {
			t.Fatalf("P17.2: Clear(%d) leaves %v", about, s)
		}
		s = s.clears(t, "P17.2: again", r, about)
		first, second := (about+2)%api.Osds, (about+1)%api.Osds
		if r.Add(first, about) || !r.Add(second, about) {
			t.Errorf("P17.2: two about %d, behind Clear", about)
		}
		if err := s.tells(r); err != nil {
			t.Errorf("P17.2: %v", err)
		}
	}
}

// TestClearOfOneWithoutReports changes nothing.
func TestClearOfOneWithoutReports(t *testing.T) {
	for _, about := range daemons() {
		said(nil).clears(t, "P17.2: new ones", watch.NewReports(), about)
	}
	r, s := reported(t, []report{{0, 1}, {3, 2}})
	for _, about := range []int{0, 3, 4} {
		s = s.clears(t, "P17.2", r, about)
	}
	if len(s) != 2 {
		t.Errorf("P17.2: %v", s)
	}
}

// TestOfRising: whatever order they come in. (Of tells one at most: with the second one all is forgotten.)
func TestOfRising(t *testing.T) {
	for _, order := range [][]int{{0, 1, 2, 3}, {3, 2, 1, 0}, {2, 0, 3, 1}} {
		r, s := watch.NewReports(), said(nil)
		for _, from := range order {
			s = s.adds(t, "P17.2", r, report{from, 4})
			if l := r.Of(4); !slices.IsSorted(l) {
				t.Errorf("P17.2: order %v: %v", order, l)
			}
		}
	}
}

// TestOneAloneCondemnsNobody: however often one says what about whom, with what is forgotten in between.
func TestOneAloneCondemnsNobody(t *testing.T) {
	for _, from := range daemons() {
		r := watch.NewReports()
		for turn := range 300 {
			about := turn % api.Osds
			if r.Add(from, about) {
				t.Fatalf("P17.3: %d alone condemns %d", from, about)
			}
			if l := r.Of(about); about != from && !slices.Equal(l, []int{from}) {
				t.Fatalf("P17.2: the same reporter again: %v", l)
			}
			if turn%7 == 0 {
				r.Clear(about)
			}
		}
	}
}

// TestTheLastOneLeftCondemnsNobody: behind what is condemned or cleared, one who was among those that spoke needs another one again.
func TestTheLastOneLeftCondemnsNobody(t *testing.T) {
	for _, forget := range []func(r *watch.Reports){
		func(r *watch.Reports) { r.Add(2, 4) },
		func(r *watch.Reports) { r.Clear(4) },
	} {
		for _, from := range []int{0, 1, 2, 3} {
			r := watch.NewReports()
			r.Add(1, 4)
			forget(r)
			for range 4 {
				if r.Add(from, 4) {
					t.Errorf("P17.3: %d alone condemns 4", from)
				}
			}
		}
	}
}

// TestTwoWhoSpeakOfUnlikeOnes condemn nobody, nor does one by what others say about it.
func TestTwoWhoSpeakOfUnlikeOnes(t *testing.T) {
	r, s := watch.NewReports(), said(nil)
	for range 3 {
		for _, c := range []report{{0, 1}, {1, 0}, {2, 3}, {3, 2}, {0, 4}} {
			s = s.adds(t, "P17.3", r, c)
			if len(s.of(c.about)) == 0 {
				t.Fatalf("P17.3: %v condemns", c)
			}
		}
	}
}
