package ballot_test

import (
	"math"
	"math/rand/v2"
	"slices"
	"testing"

	"paddock/api"
	"paddock/ballot"
)

// order is a ballot as one number: the greater the ballot, the greater it.
func order(b api.Ballot) uint64 { return uint64(b.N)<<8 + uint64(b.Who) }

// formed tells by the chapter's words whether a call's ballot and increment are such.
func (c call) formed(good map[api.Inc]int) bool {
	return c.b.N != 0 && c.b.Who <= 2 && (!c.accept || good[c.x] > 0)
}

// played: what an acceptor is to tell, worked out of the row of all calls on it so far.
func played(row []call, good map[api.Inc]int) (answer, holding) {
	var last answer
	var h holding
	for _, c := range row {
		switch {
		case !c.formed(good):
			last = wrong
		case order(c.b) < order(h.promised):
			last = nack
		case c.accept:
			last, h = answer{}, holding{c.b, c.b, c.x, true}
		default:
			last = answer{acc: h.acc, inc: h.inc, has: h.has}
			h.promised = c.b
		}
	}
	return last, h
}

// anyBallot: about what is promised; now and then a low one, the greatest one, or none.
func anyBallot(r *rand.Rand, promised api.Ballot) api.Ballot {
	b := api.Ballot{N: max(promised.N, 2) - 2 + uint32(r.IntN(6)), Who: uint8(r.IntN(api.Mons))} // goes round above the greatest one
	switch r.IntN(100) {
	case 0:
		b.N = math.MaxUint32
	case 1, 2, 3, 4, 5:
		b.N = uint32(r.IntN(3))
	case 6, 7, 8, 9, 10:
		b.N = promised.N / 2
	case 11, 12, 13, 14, 15, 16, 17, 18, 19, 20:
		b.Who = uint8(r.IntN(256))
	}
	return b
}

// anyInc: now and then one that is none.
func anyInc(r *rand.Rand) api.Inc {
	switch r.IntN(8) {
	case 0:
		return api.Inc{Kind: uint8(r.IntN(6)), Osd: uint8(r.IntN(7)), N: r.IntN(20) - 2}
	case 1:
		return none()
	case 2, 3:
		return weight(uint8(r.IntN(api.Osds)), r.IntN(api.MaxWeight+1))
	}
	return api.Inc{Kind: api.IUp + uint8(r.IntN(2)), Osd: uint8(r.IntN(api.Osds))}
}

func anyCall(r *rand.Rand, promised api.Ballot) call {
	c := call{accept: r.IntN(2) == 0, b: anyBallot(r, promised)}
	if c.accept {
		c.x = anyInc(r)
	}
	return c
}

// TestRowsOfCalls: several acceptors by turns, each held behind each call against what its own row makes of it.
func TestRowsOfCalls(t *testing.T) {
	good := incs()
	seen := map[answer]int{}
	has, rose := 0, 0
	for seed := range uint64(60) {
		r := rand.New(rand.NewPCG(seed, 101))
		acceptors := [api.Mons]*ballot.Acceptor{ballot.New(), ballot.New(), ballot.New()}
		var rows [api.Mons][]call
		for range 240 {
			i := r.IntN(api.Mons)
			before := acceptors[i].Promised()
			c := anyCall(r, before)
			rows[i] = append(rows[i], c)
			want, then := played(rows[i], good)
			got := c.on(acceptors[i])
			if got != want || told(acceptors[i]) != then {
				t.Fatalf("P10.1: seed %d: acceptor %d, behind %+v: %+v, %+v, not %+v, %+v", seed, i, c, got, told(acceptors[i]), want, then)
			}
			seen[answer{e: got.e}]++
			if got.has {
				has++
			}
			if then.promised != before {
				rose++
			}
		}
		for i, row := range rows {
			again := ballot.New()
			for _, c := range row {
				c.on(again)
			}
			if told(again) != told(acceptors[i]) {
				t.Errorf("rule 6: seed %d: the same row again: %+v, not %+v", seed, told(again), told(acceptors[i]))
			}
		}
	}
	if seen[answer{}] < 1000 || seen[nack] < 1000 || seen[wrong] < 1000 || has < 1000 || rose < 1000 {
		t.Errorf("too little came to pass: %v, %d told what was accepted, %d promised more", seen, has, rose)
	}
}

// checkNotDown: what is promised stays or goes up; OK promises the call's ballot, an error leaves what was.
func checkNotDown(t *testing.T, a *ballot.Acceptor, row []call) {
	t.Helper()
	before := a.Promised()
	c := row[len(row)-1]
	e := c.on(a).e
	behind := a.Promised()
	if order(behind) < order(before) || ballot.Less(behind, before) {
		t.Fatalf("P10.2: %+v: promised %v, ahead of it %v", row, behind, before)
	}
	if e == api.OK && behind != c.b || e != api.OK && behind != before {
		t.Fatalf("P10.2: %+v: %v, promised %v, ahead of it %v", row, e, behind, before)
	}
	if acc, _, _ := a.Accepted(); ballot.Less(behind, acc) {
		t.Fatalf("P10.2: %+v: promised %v, accepted %v", row, behind, acc)
	}
}

// TestWhatIsPromisedNeverGoesDown: all rows of four calls out of some that are below, beside and above one another.
func TestWhatIsPromisedNeverGoesDown(t *testing.T) {
	var some []call
	for _, b := range []api.Ballot{{}, at(1, 0), at(1, 2), at(2, 0), at(2, 1), at(2, 3), at(math.MaxUint32, 2)} {
		some = append(some, call{b: b}, call{accept: true, b: b, x: down(1)})
	}
	some = append(some, accept(2, 0, api.Inc{}))
	var rows func(row []call)
	rows = func(row []call) {
		if len(row) == 4 {
			a := ballot.New()
			for i := range row {
				checkNotDown(t, a, row[:i+1])
			}
			return
		}
		for _, c := range some {
			rows(append(slices.Clone(row), c))
		}
	}
	rows(nil)
}

// TestWhatIsPromisedNeverGoesDownInLongRows: whatever comes, up to the greatest ballot and behind it.
func TestWhatIsPromisedNeverGoesDownInLongRows(t *testing.T) {
	for seed := range uint64(40) {
		r := rand.New(rand.NewPCG(seed, 102))
		a := ballot.New()
		for range 1500 {
			c := anyCall(r, a.Promised())
			if r.IntN(3) == 0 {
				c.b.N = r.Uint32() >> r.IntN(32)
			}
			checkNotDown(t, a, []call{c})
		}
		checkNotDown(t, a, []call{prepare(math.MaxUint32, 2)})
		for range 100 {
			checkNotDown(t, a, []call{anyCall(r, a.Promised())})
		}
		if got := a.Promised(); got != at(math.MaxUint32, 2) {
			t.Errorf("P10.2: seed %d: behind the greatest ballot: promised %v", seed, got)
		}
	}
}
