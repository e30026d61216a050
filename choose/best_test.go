package choose_test

import (
	"math"
	"math/rand/v2"
	"slices"
	"strings"
	"testing"

	"paddock/api"
	"paddock/choose"
	"paddock/pglog"
)

func write(seq uint32, data string) api.Op {
	return api.Op{Client: 1, Seq: seq, Kind: api.OWrite, Obj: 2, Data: data}
}

// tail: a state all of whose operations are folded.
func tail(started, since, n uint32) api.State {
	return api.State{Started: started, Tail: api.Entry{Since: since, N: n}}
}

// logged: a state with so many entries in its log, the last one of which is its head.
func logged(started, since, n uint32, length int) api.State {
	s := tail(started, since, n-uint32(length))
	for i := range uint32(length) {
		number := s.Tail.N + 1 + i
		s.Log = append(s.Log, api.Entry{Since: since, N: number, Op: write(number, "a")})
	}
	return s
}

// bent: a state with a log of its own that bend was let loose on.
func bent(s api.State, bend func(s *api.State)) api.State {
	s.Log = slices.Clone(s.Log)
	bend(&s)
	return s
}

func alike(a, b api.State) bool {
	return a.Started == b.Started && a.Base == b.Base && a.Tail == b.Tail && slices.Equal(a.Log, b.Log)
}

func cloned(l []api.State) []api.State {
	all := []api.State{}
	for _, s := range l {
		all = append(all, bent(s, func(*api.State) {}))
	}
	return all
}

// checkBest: Best is want, and leaves what it was handed as it was.
func checkBest(t *testing.T, name string, osds []int, l []api.State, want int) {
	t.Helper()
	keptOsds, kept := slices.Clone(osds), cloned(l)
	if got := choose.Best(osds, l); got != want {
		t.Errorf("P9.1: Best, %s: of daemons %v: %d, not %d", name, osds, got, want)
	}
	if !slices.Equal(osds, keptOsds) || !slices.EqualFunc(l, kept, alike) {
		t.Errorf("rule 3: Best, %s: what was handed in is another one", name)
	}
}

// orders calls f with each order of the numbers below n.
func orders(n int, f func(order []int)) {
	order := make([]int, 0, n)
	var next func()
	next = func() {
		if len(order) == n {
			f(order)
			return
		}
		for i := range n {
			if !slices.Contains(order, i) {
				order = append(order, i)
				next()
				order = order[:len(order)-1]
			}
		}
	}
	next()
}

// checkBestInEachOrder: the first row is the best one, wherever it is.
func checkBestInEachOrder(t *testing.T, name string, osds []int, l []api.State) {
	t.Helper()
	orders(len(l), func(order []int) {
		var ownOsds []int
		var own []api.State
		for _, i := range order {
			ownOsds, own = append(ownOsds, osds[i]), append(own, l[i])
		}
		checkBest(t, name, ownOsds, own, slices.Index(order, 0))
	})
}

// TestBest has the best one first, and goes through all orders.
func TestBest(t *testing.T) {
	for _, c := range []struct {
		name string
		osds []int
		l    []api.State
	}{
		{"one alone", []int{4}, []api.State{{}}},
		{"one alone, with all that it can have", []int{0}, []api.State{logged(api.MaxEpoch, api.MaxEpoch, math.MaxUint32, api.MaxLog)}},
		{"unlike Started", []int{3, 0, 1}, []api.State{tail(9, 2, 5), tail(8, 2, 5), tail(7, 2, 5)}},
		{"Started at 0 and at MaxEpoch", []int{3, 0, 1}, []api.State{tail(api.MaxEpoch, 0, 0), tail(api.MaxEpoch-1, 60, 99), tail(0, 60, 100)}},
		{"a greater Started with a lesser Since", []int{4, 0, 1}, []api.State{logged(6, 3, 4, 2), logged(5, 5, 4, 2), logged(5, 6, 4, 2)}},
		{"a greater Started with a lesser N", []int{4, 0, 1}, []api.State{logged(6, 3, 4, 2), logged(5, 3, 5, 2), logged(4, 3, 6, 2)}},
		{"a greater Started with nothing", []int{4, 0}, []api.State{{Started: 1}, logged(0, 60, 6, 6)}},
		{"the same Started, Heads of unlike Since", []int{2, 1, 0}, []api.State{tail(7, 5, 3), tail(7, 4, 3), tail(7, 3, 3)}},
		{"a greater Since with a lesser N", []int{2, 1, 0}, []api.State{logged(7, 5, 3, 1), logged(7, 4, 9, 1), logged(7, 3, 12, 1)}},
		{"a greater Since with number 0", []int{2, 1}, []api.State{tail(7, 5, 0), tail(7, 4, math.MaxUint32)}},
		{"the same Since, unlike N", []int{4, 3, 2}, []api.State{logged(7, 5, 8, 3), logged(7, 5, 7, 3), logged(7, 5, 6, 3)}},
		{"numbers as great as can be", []int{4, 3, 2}, []api.State{tail(7, 5, math.MaxUint32), tail(7, 5, math.MaxUint32-1), tail(7, 5, 1<<31-1)}},
		{"the same Head: the least daemon", []int{1, 2, 3, 4}, []api.State{logged(7, 5, 8, 2), logged(7, 5, 8, 2), logged(7, 5, 8, 2), logged(7, 5, 8, 2)}},
		{"the same Head, daemon 0", []int{0, 4}, []api.State{tail(7, 5, 8), tail(7, 5, 8)}},
		{"two of the same Head, and a lesser daemon behind them", []int{3, 4, 0, 1}, []api.State{tail(7, 5, 8), tail(7, 5, 8), tail(7, 5, 7), tail(6, 5, 8)}},
		{"the same Head, in the log and in the Tail", []int{1, 2, 3}, []api.State{logged(7, 5, 8, 3), tail(7, 5, 8), logged(7, 5, 8, 6)}},
		{"the same Head, in the Tail and in the log", []int{1, 2, 3}, []api.State{tail(7, 5, 8), logged(7, 5, 8, 6), logged(7, 5, 8, 1)}},
		{"a greater Head in the Tail than in the log", []int{3, 2}, []api.State{tail(7, 5, 9), logged(7, 5, 8, 6)}},
		{"a greater Head in the log than in the Tail", []int{3, 2}, []api.State{logged(7, 5, 9, 6), tail(7, 5, 8)}},
		{"a greater Tail with a lesser Head", []int{3, 2}, []api.State{logged(7, 5, 9, 6), logged(7, 5, 8, 1)}},
		{"a longer log with a lesser Head", []int{3, 2}, []api.State{logged(7, 5, 9, 1), logged(7, 5, 8, 6)}},
		{"the last entry's Since counts, not the first one's", []int{3, 2}, []api.State{
			bent(logged(7, 2, 9, 4), func(s *api.State) { s.Log[3].Since = 6 }),
			bent(logged(7, 5, 9, 4), func(s *api.State) {}),
		}},
		{"what was written doesn't count", []int{0, 1, 2}, []api.State{
			tail(7, 5, 8),
			bent(tail(7, 5, 8), func(s *api.State) { s.Base.Objs[3] = api.Object{There: true, Data: "zz"} }),
			bent(tail(7, 5, 8), func(s *api.State) { s.Base.Last[0].Seq = 99 }),
		}},
		{"numbers that are no daemon's", []int{math.MinInt, -1, api.Osds, math.MaxInt}, []api.State{{}, {}, {}, {}}},
		{"a greater Started of a number that is no daemon's", []int{math.MaxInt, -7}, []api.State{{Started: 1}, {}}},
	} {
		checkBestInEachOrder(t, c.name, c.osds, c.l)
	}
}

func TestBestOfADaemonTwice(t *testing.T) {
	checkBest(t, "unlike states", []int{2, 2, 2}, []api.State{tail(7, 5, 8), tail(7, 5, 9), tail(7, 5, 7)}, 1)
	checkBest(t, "the same state", []int{3, 2, 2}, []api.State{tail(7, 5, 8), tail(7, 5, 8), tail(7, 5, 8)}, 1)
}

func TestBestOfNone(t *testing.T) {
	checkBest(t, "nil", nil, nil, -1)
	checkBest(t, "empty", []int{}, []api.State{}, -1)
	checkBest(t, "nil and empty", nil, []api.State{}, -1)
	checkBest(t, "empty and nil", []int{}, nil, -1)
}

func TestBestOfUnlikeLengths(t *testing.T) {
	l := []api.State{tail(7, 5, 8), tail(7, 5, 9), tail(7, 5, 7), tail(8, 0, 0)}
	osds := []int{3, 1, 0, 2}
	for i := range len(osds) + 1 {
		for k := range len(l) + 1 {
			if i != k {
				checkBest(t, "unlike lengths", osds[:i], l[:k], -1)
			}
		}
	}
}

// bad: what is no state, by each of its parts.
func bad() map[string]api.State {
	good := logged(7, 5, 8, 4)
	return map[string]api.State{
		"Started one above":           bent(good, func(s *api.State) { s.Started = api.MaxEpoch + 1 }),
		"nothing but a great Started": {Started: math.MaxUint32},
		"Tail's Since one above":      tail(7, api.MaxEpoch+1, 8),
		"Tail with an Op":             bent(good, func(s *api.State) { s.Tail.Op = write(1, "a") }),
		"one entry too many":          logged(7, 5, 8, api.MaxLog+1),
		"a number left out":           bent(good, func(s *api.State) { s.Log = slices.Delete(s.Log, 1, 2) }),
		"an interval that goes back":  bent(good, func(s *api.State) { s.Log[3].Since = 4 }),
		"an interval one above":       bent(good, func(s *api.State) { s.Log[3].Since = api.MaxEpoch + 1 }),
		"an entry that reads":         bent(good, func(s *api.State) { s.Log[3].Op = api.Op{Client: 1, Seq: 9, Kind: api.ORead} }),
		"bytes too long":              bent(good, func(s *api.State) { s.Base.Objs[0] = api.Object{There: true, Data: strings.Repeat("f", api.MaxData+1)} }),
		"bytes of what isn't there":   bent(good, func(s *api.State) { s.Base.Objs[5].Data = "a" }),
		"a last one without a number": bent(good, func(s *api.State) { s.Base.Last[2].R.Code = api.RNone }),
	}
}

// TestBestOfWhatIsNoState puts one that is none at each place among others, as the greatest and as the least.
func TestBestOfWhatIsNoState(t *testing.T) {
	others := []api.State{tail(7, 5, 8), tail(9, 5, 9), tail(0, 0, 0), logged(60, 60, 60, 6)}
	for name, s := range bad() {
		if pglog.Is(s) {
			t.Fatalf("%s: is a state", name)
		}
		checkBest(t, name, []int{1}, []api.State{s}, -1)
		for place := range len(others) + 1 {
			l := slices.Insert(slices.Clone(others), place, s)
			checkBest(t, name, []int{4, 3, 2, 1, 0}, l, -1)
		}
	}
	checkBest(t, "all of them are states", []int{3, 2, 1, 0}, others, 3)
}

// ahead: whether the one row counts ahead of the other, word by word.
func ahead(osd int, s api.State, otherOsd int, other api.State) bool {
	since, n := s.Tail.Since, s.Tail.N
	if k := len(s.Log); k > 0 {
		since, n = s.Log[k-1].Since, s.Log[k-1].N
	}
	otherSince, otherN := other.Tail.Since, other.Tail.N
	if k := len(other.Log); k > 0 {
		otherSince, otherN = other.Log[k-1].Since, other.Log[k-1].N
	}
	if s.Started != other.Started {
		return s.Started > other.Started
	}
	if since != otherSince {
		return since > otherSince
	}
	if n != otherN {
		return n > otherN
	}
	return osd < otherOsd
}

// TestBestIsAheadOfAllOthers: rows of few unlike words, so that many are alike in some of them.
func TestBestIsAheadOfAllOthers(t *testing.T) {
	r := rand.New(rand.NewPCG(9, 1))
	for range 20000 {
		osds := r.Perm(api.Osds)[:1+r.IntN(api.Osds)]
		var l []api.State
		for range osds {
			l = append(l, logged(uint32(r.IntN(3)), uint32(r.IntN(3)), 6+uint32(r.IntN(3)), r.IntN(api.MaxLog+1)))
		}
		best := choose.Best(osds, l)
		if best < 0 || best >= len(l) {
			t.Fatalf("P9.1: Best of %v: %d", osds, best)
		}
		for i := range l {
			if i != best && !ahead(osds[best], l[best], osds[i], l[i]) {
				t.Fatalf("P9.1: Best of %v, %+v: %d; it isn't ahead of %d", osds, l, best, i)
			}
		}
	}
}

func TestStarted(t *testing.T) {
	for _, c := range []struct {
		name string
		l    []uint32
		want uint32
	}{
		{"none", nil, 0},
		{"one of 0", []uint32{0}, 0},
		{"one", []uint32{7}, 7},
		{"one at MaxEpoch", []uint32{api.MaxEpoch}, api.MaxEpoch},
		{"the greatest first", []uint32{9, 3, 8}, 9},
		{"the greatest last", []uint32{0, 3, 9}, 9},
		{"the greatest in between", []uint32{3, 9, 8}, 9},
		{"the greatest twice", []uint32{9, 3, 9, 1}, 9},
		{"all alike", []uint32{4, 4, 4, 4, 4}, 4},
		{"one above MaxEpoch", []uint32{5, api.MaxEpoch + 1, 6}, api.MaxEpoch + 1},
		{"as great as can be", []uint32{1 << 31, math.MaxUint32, 1<<31 - 1}, math.MaxUint32},
	} {
		for _, length := range []int{0, 2, api.MaxLog} {
			l := []api.State{}
			for i, started := range c.l {
				l = append(l, logged(started, uint32(50-i), 20+uint32(i), length))
			}
			kept := cloned(l)
			if got := choose.Started(l); got != c.want {
				t.Errorf("P9.1: Started, %s: %d, not %d", c.name, got, c.want)
			}
			if !slices.EqualFunc(l, kept, alike) {
				t.Errorf("rule 3: Started, %s: what was handed in is another one", c.name)
			}
		}
	}
	if got := choose.Started([]api.State{}); got != 0 {
		t.Errorf("P9.1: Started of an empty list: %d", got)
	}
}
