package synod_test

import (
	"math"
	"math/rand/v2"
	"slices"
	"testing"

	"paddock/api"
	"paddock/synod"
)

// order is a ballot as one number: the greater the ballot, the greater it.
func order(b api.Ballot) uint64 { return uint64(b.N)<<8 + uint64(b.Who) }

// lists: what was heard for a proposer's ballot, in lists, out of which all is worked out when it is asked for.
type lists struct {
	who                uint8
	wants              api.Inc
	ballot             api.Ballot
	promised, accepted []call
	decided            []api.Inc // by each ballot by which something was
}

// takes adds a word to a list that is shorter than most, if it is the first one from a monitor, for the ballot.
func (m *lists) takes(to *[]call, c call, most int) bool {
	same := func(k call) bool { return k.from == c.from }
	if m.ballot.N == 0 || c.b != m.ballot || c.from > 2 || len(*to) >= most || slices.ContainsFunc(*to, same) {
		return false
	}
	*to = append(*to, c)
	return true
}

func (m *lists) value() (api.Inc, bool) {
	if len(m.promised) < 2 {
		return api.Inc{}, false
	}
	have := slices.DeleteFunc(slices.Clone(m.promised), func(c call) bool { return !c.has })
	if len(have) == 0 {
		return m.wants, true
	}
	slices.SortStableFunc(have, func(a, b call) int {
		if order(a.acc) > order(b.acc) {
			return -1
		} else if order(a.acc) < order(b.acc) {
			return 1
		}
		return 0
	})
	return have[0].x, true
}

func (m *lists) does(c call) answer {
	switch c.kind {
	case starts:
		n := min(uint64(max(m.ballot.N, c.b.N))+1, math.MaxUint32)
		m.ballot, m.promised, m.accepted = at(uint32(n), m.who), nil, nil
		return answer{ballot: m.ballot}
	case promises:
		return answer{tells: m.takes(&m.promised, c, 2) && len(m.promised) == 2}
	}
	x, has := m.value()
	if !has || !m.takes(&m.accepted, c, 3) || len(m.accepted) != 2 {
		return answer{}
	}
	m.decided = append(m.decided, x)
	return answer{tells: true}
}

func (m *lists) told() view {
	v := view{ballot: m.ballot}
	v.value, v.has = m.value()
	if n := len(m.decided); n > 0 {
		v.decided, v.is = m.decided[n-1], true
	}
	return v
}

// TestAllShortRows: each row of some calls behind a start, held against lists of what was heard.
func TestAllShortRows(t *testing.T) {
	b := at(3, 2)
	some := []call{
		start(b), free(0, b), free(1, b), bound(0, b, at(1, 1), down(2)), bound(1, b, at(2, 0), down(3)), bound(2, b, at(2, 0), down(4)),
		accepted(0, b), accepted(2, b), accepted(1, at(4, 2)), bound(1, at(4, 2), b, down(0)),
	}
	decided := 0
	row := []call{start(at(2, 0))}
	var longer func(left int)
	longer = func(left int) {
		p, m := synod.New(2, down(1)), &lists{who: 2, wants: down(1)}
		var got, want answer
		for _, c := range row {
			got, want = c.on(p), m.does(c)
		}
		if got != want || told(p) != m.told() {
			t.Fatalf("P11.1, P11.2: behind %+v: %+v, %+v, not %+v, %+v", row, got, told(p), want, m.told())
		}
		if m.told().is {
			decided++
		}
		if left == 0 {
			return
		}
		for _, c := range some {
			row = append(row, c)
			longer(left - 1)
			row = row[:len(row)-1]
		}
	}
	longer(5)
	if decided < 500 {
		t.Errorf("too little came to pass: %d decided", decided)
	}
}

// anyBallot: its own most often, one about it, now and then any.
func anyBallot(r *rand.Rand, own api.Ballot) api.Ballot {
	switch r.IntN(12) {
	case 0:
		return at(own.N+uint32(r.IntN(3))-1, own.Who)
	case 1:
		return at(own.N, uint8(r.IntN(4)))
	case 2:
		return at(r.Uint32(), uint8(r.IntN(256)))
	}
	return own
}

func anyFrom(r *rand.Rand) uint8 {
	if r.IntN(10) == 0 {
		return uint8(r.IntN(256))
	}
	return uint8(r.IntN(api.Mons))
}

func anyOver(r *rand.Rand, own api.Ballot) api.Ballot {
	switch r.IntN(40) {
	case 0:
		return at(math.MaxUint32-uint32(r.IntN(3)), uint8(r.IntN(4)))
	case 1, 2, 3:
		return api.Ballot{}
	}
	return at(max(own.N, 3)-3+uint32(r.IntN(6)), uint8(r.IntN(4))) // goes round above the greatest one
}

func anyCall(r *rand.Rand, own api.Ballot) call {
	switch r.IntN(13) {
	case 0:
		return start(anyOver(r, own))
	case 1, 2, 3, 4, 5, 6:
		c := call{kind: promises, from: anyFrom(r), b: anyBallot(r, own), acc: at(uint32(r.IntN(3)), uint8(r.IntN(3))), x: weight(uint8(r.IntN(5)), r.IntN(17)), has: r.IntN(2) == 0}
		if r.IntN(20) == 0 {
			c.acc, c.x = at(r.Uint32(), uint8(r.IntN(256))), api.Inc{Kind: uint8(r.IntN(256)), N: int(r.Int64()) - math.MaxInt/2}
		}
		return c
	}
	return accepted(anyFrom(r), anyBallot(r, own))
}

// TestLongRows: several proposers by turns, each held behind each call against its own lists.
func TestLongRows(t *testing.T) {
	var values, bounds, decided, again int
	for seed := range uint64(150) {
		r := rand.New(rand.NewPCG(seed, 111))
		var p [3]*synod.Proposer
		var m [3]*lists
		for i := range p {
			who, x := uint8(r.IntN(4)), down(uint8(i))
			p[i], m[i] = synod.New(who, x), &lists{who: who, wants: x}
		}
		for range 300 {
			i := r.IntN(3)
			c := anyCall(r, m[i].ballot)
			got, want := c.on(p[i]), m[i].does(c)
			if got != want || told(p[i]) != m[i].told() {
				t.Fatalf("P11.1, P11.2: seed %d: proposer %d, behind %+v: %+v, %+v, not %+v, %+v", seed, i, c, got, told(p[i]), want, m[i].told())
			}
			if v := m[i].told(); got.tells && c.kind == promises {
				values++
				if v.value != m[i].wants {
					bounds++
				}
			} else if got.tells {
				decided++
				if len(m[i].decided) > 1 {
					again++
				}
			}
		}
		for i := range p {
			if told(p[i]) != m[i].told() {
				t.Fatalf("rule 6: seed %d: proposer %d at the end: %+v, not %+v", seed, i, told(p[i]), m[i].told())
			}
		}
	}
	if values < 1000 || bounds < 500 || values-bounds < 200 || decided < 500 || again < 200 {
		t.Errorf("too little came to pass: %d values, %d of them bound, %d decided, %d of them again", values, bounds, decided, again)
	}
}
