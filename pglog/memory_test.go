package pglog_test

import (
	"slices"
	"testing"

	"paddock/api"
	"paddock/pglog"
)

// roomy: a state whose log lies in a greater list, with other entries ahead of it and in the room behind it; and all of that list.
func roomy(length int) (api.State, []api.Entry) {
	s := state(length)
	other := api.Entry{Since: 1, N: 1, Op: write(1, 1, "other")}
	all := append([]api.Entry{other, other}, s.Log...)
	all = append(all, other, other, other)
	s.Log = all[2 : 2+length]
	return s, all
}

// makers: each call that answers a state, at each number that it takes.
func makers(length int) []func(s api.State) api.State {
	l := []func(s api.State) api.State{
		func(s api.State) api.State { s, _ = pglog.Add(s, next(s)); return s },
	}
	for n := uint32(40); n <= 40+uint32(length); n++ {
		l = append(l,
			func(s api.State) api.State { s, _ = pglog.Cut(s, n); return s },
			func(s api.State) api.State { s, _ = pglog.Tail(s, n); return s },
		)
	}
	return l
}

// spoil writes over all of a list, its spare room too.
func spoil(l []api.Entry) {
	l = l[:cap(l)]
	for i := range l {
		l[i] = api.Entry{Since: 99, N: 99, Op: api.Op{Data: "spoilt"}}
	}
}

func TestAnswersAreNewMemory(t *testing.T) {
	for length := range api.MaxLog + 1 {
		for i, maker := range makers(length) {
			s, all := roomy(length)
			before := slices.Clone(all)
			one := maker(s)
			other := maker(s)
			if !slices.Equal(all, before) || !alike(s, state(length)) {
				t.Fatalf("rule 3: %d entries, call %d changed what was handed in", length, i)
			}
			kept := twin(other)
			spoil(one.Log)
			if !slices.Equal(all, before) {
				t.Fatalf("rule 3: %d entries, call %d: its answer's log is that which was handed in", length, i)
			}
			if !alike(other, kept) {
				t.Fatalf("rule 3: %d entries, call %d: two answers share a log", length, i)
			}
			spoil(all)
			if !alike(other, kept) {
				t.Fatalf("rule 3: %d entries, call %d kept what was handed in", length, i)
			}
			if third := maker(state(length)); !alike(third, kept) {
				t.Fatalf("rule 6: %d entries, call %d: %+v, not %+v", length, i, third, kept)
			}
		}
	}
}

// TestAnswersOfAnswersAreNewMemory: what a state was made of isn't turned by it, nor what is made of it.
func TestAnswersOfAnswersAreNewMemory(t *testing.T) {
	for _, maker := range makers(4) {
		for i, again := range makers(4) {
			s, all := roomy(4)
			before := slices.Clone(all)
			first := maker(s)
			kept := twin(first)
			second := again(first)
			spoil(second.Log)
			if !slices.Equal(all, before) || !alike(first, kept) {
				t.Fatalf("rule 3: call %d upon an answer shares its log", i)
			}
		}
	}
}

// TestBranchesGoTheirOwnWay: two that are added to one state, which has spare room, don't write into one list.
func TestBranchesGoTheirOwnWay(t *testing.T) {
	for length := range api.MaxLog + 1 {
		s, _ := roomy(length)
		left, right := next(s), next(s)
		left.Op.Data, right.Op.Data = "left", "right"
		a, _ := pglog.Add(s, left)
		b, _ := pglog.Add(s, right)
		x, _ := pglog.Find(a, left.N)
		y, _ := pglog.Find(b, right.N)
		if x != left || y != right || !alike(s, state(length)) {
			t.Errorf("rule 3: %d entries: two branches: %+v, %+v", length, x, y)
		}
		a.Log = append(a.Log, left)
		b.Log = append(b.Log, right)
		if a.Log[len(a.Log)-1] != left {
			t.Errorf("rule 3: %d entries: two branches share spare room", length)
		}
	}
}

// TestReadersChangeNothing: those that answer no state leave the log and the room around it as they were.
func TestReadersChangeNothing(t *testing.T) {
	for length := range api.MaxLog + 2 {
		s, all := roomy(length)
		before := slices.Clone(all)
		pglog.Is(s)
		pglog.Head(s)
		pglog.Fold(s)
		pglog.Same(s, s)
		for n := uint32(38); n < 50; n++ {
			pglog.Upto(s, n)
			pglog.Find(s, n)
		}
		if !slices.Equal(all, before) || !alike(s, state(length)) {
			t.Errorf("rule 3: %d entries: a call changed what was handed in", length)
		}
	}
}

// TestRefusedCallsChangeNothing: an error leaves the log and the room around it as they were.
func TestRefusedCallsChangeNothing(t *testing.T) {
	for length := range api.MaxLog + 2 {
		s, all := roomy(length)
		before := slices.Clone(all)
		for n := range uint32(60) {
			if n < 40 || n > 40+uint32(length) {
				_, e := pglog.Cut(s, n)
				_, f := pglog.Tail(s, n)
				if e == api.OK || f == api.OK {
					t.Errorf("P7.2: %d entries: Cut, Tail at %d: %v, %v", length, n, e, f)
				}
			}
			if _, e := pglog.Add(s, api.Entry{Since: api.MaxEpoch + 1, N: n, Op: write(1, 0, "")}); e != api.ErrForm {
				t.Errorf("P7.2: %d entries: Add of %d: %v", length, n, e)
			}
		}
		if !slices.Equal(all, before) || !alike(s, state(length)) {
			t.Errorf("rule 3: %d entries: a refused call changed what was handed in", length)
		}
	}
}
