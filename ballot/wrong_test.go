package ballot_test

import (
	"fmt"
	"math"
	"testing"

	"paddock/api"
	"paddock/ballot"
)

var wrong = answer{e: api.ErrForm}

// places: acceptors at all that may lie behind one, by name; each call makes them anew.
func places(t *testing.T) map[string]*ballot.Acceptor {
	t.Helper()
	return map[string]*ballot.Acceptor{
		"new":                        ballot.New(),
		"the least one promised":     after(t, prepare(1, 0)),
		"promised":                   after(t, prepare(5, 1)),
		"accepted":                   after(t, accept(5, 1, up(2))),
		"accepted, another promised": after(t, accept(2, 2, down(3)), prepare(5, 1)),
		"the greatest one accepted":  after(t, accept(math.MaxUint32, 2, none())),
	}
}

// checkRefused: a call is answered with want, and the acceptor is as it was, also by what it answers later.
func checkRefused(t *testing.T, name string, a *ballot.Acceptor, c call, want answer) {
	t.Helper()
	before := told(a)
	for range 2 {
		if got := c.on(a); got != want {
			t.Errorf("P10.1: %s: %+v: %+v, not %+v", name, c, got, want)
		}
		if got := told(a); got != before {
			t.Errorf("rule 4: %s: behind %+v: %+v, not %+v", name, c, got, before)
		}
	}
}

// checkGoesOn: an acceptor that was new or has before promises that again, tells what it accepted, and takes another one.
func checkGoesOn(t *testing.T, name string, a *ballot.Acceptor, before holding) {
	t.Helper()
	b := before.promised
	if b == (api.Ballot{}) {
		b = at(1, 0)
	}
	if got, want := (call{b: b}).on(a), (answer{acc: before.acc, inc: before.inc, has: before.has}); got != want {
		t.Errorf("rule 4: %s: Prepare(%v) behind what was refused: %+v, not %+v", name, b, got, want)
	}
	if got := a.Accept(b, weight(1, 7)); got != api.OK {
		t.Errorf("rule 4: %s: Accept(%v) behind what was refused: %v", name, b, got)
	}
	if got, want := told(a), (holding{b, b, weight(1, 7), true}); got != want {
		t.Errorf("rule 4: %s: behind that: %+v, not %+v", name, got, want)
	}
}

// noBallots: numbers of 0, and whoever is no monitor.
func noBallots() []api.Ballot {
	l := []api.Ballot{{}, {Who: 1}, {Who: api.Mons - 1}, {Who: api.Mons}, {Who: 255}}
	for _, n := range []uint32{1, 2, 4, 5, 6, 256, 1 << 31, math.MaxUint32} {
		for _, who := range []uint8{api.Mons, api.Mons + 1, 127, 128, 255} {
			l = append(l, at(n, who))
		}
	}
	return l
}

// noIncs: by each of an increment's parts.
func noIncs() []api.Inc {
	return []api.Inc{
		{}, {Osd: 1}, {N: 1}, {Kind: api.INone + 1}, {Kind: 255},
		{Kind: api.IUp, Osd: api.Osds}, {Kind: api.IDown, Osd: api.Osds}, {Kind: api.IWeight, Osd: api.Osds},
		{Kind: api.IUp, Osd: 255}, {Kind: api.IDown, Osd: 255}, {Kind: api.IWeight, Osd: 255, N: 8},
		{Kind: api.IUp, Osd: 1, N: 1}, {Kind: api.IUp, Osd: 1, N: -1}, {Kind: api.IDown, Osd: 1, N: 8}, {Kind: api.IDown, N: math.MinInt},
		{Kind: api.IWeight, Osd: 1, N: -1}, {Kind: api.IWeight, Osd: 1, N: api.MaxWeight + 1}, {Kind: api.IWeight, N: math.MinInt}, {Kind: api.IWeight, N: math.MaxInt},
		{Kind: api.INone, Osd: 1}, {Kind: api.INone, N: 1}, {Kind: api.INone, N: -1}, {Kind: api.INone, Osd: api.Osds},
	}
}

// checkAllRefused plays each call on acceptors at all places, and looks how they go on behind all of them.
func checkAllRefused(t *testing.T, l []call, want answer) {
	t.Helper()
	for name, a := range places(t) {
		before := told(a)
		for _, c := range l {
			checkRefused(t, name, a, c, want)
		}
		checkGoesOn(t, name, a, before)
	}
}

// TestNoBallot: whatever was promised: some of these are Less than that, some aren't.
func TestNoBallot(t *testing.T) {
	var l []call
	for _, b := range noBallots() {
		l = append(l, call{b: b}, call{accept: true, b: b, x: down(1)}, call{accept: true, b: b, x: none()})
		for _, x := range noIncs() {
			l = append(l, call{accept: true, b: b, x: x})
		}
	}
	checkAllRefused(t, l, wrong)
}

// TestNoIncrement: by ballots that are too low, by the very one that is promised, by greater ones.
func TestNoIncrement(t *testing.T) {
	var l []call
	for _, b := range []api.Ballot{at(1, 0), at(1, 2), at(5, 0), at(5, 1), at(5, 2), at(6, 0), at(math.MaxUint32, 1), at(math.MaxUint32, 2)} {
		for _, x := range noIncs() {
			l = append(l, call{accept: true, b: b, x: x})
		}
	}
	checkAllRefused(t, l, wrong)
}

// TestAFormThatIsWrongGoesAhead of a ballot that is too low.
func TestAFormThatIsWrongGoesAhead(t *testing.T) {
	held := holding{at(5, 1), at(4, 0), down(1), true}
	checkSteps(t, "wrong and too low", []step{
		{accept(4, 0, down(1)), answer{}, holding{at(4, 0), at(4, 0), down(1), true}},
		{prepare(5, 1), answer{acc: at(4, 0), inc: down(1), has: true}, held},
		{prepare(5, 0), nack, held},
		{prepare(0, 0), wrong, held},
		{prepare(4, 3), wrong, held},
		{accept(5, 0, down(1)), nack, held},
		{accept(5, 0, api.Inc{}), wrong, held},
		{accept(0, 1, down(1)), wrong, held},
		{accept(4, 3, down(1)), wrong, held},
		{accept(4, 3, api.Inc{}), wrong, held},
	})
}

func TestATooLowBallotChangesNothing(t *testing.T) {
	for name, l := range map[string][]call{
		"promised":                   {prepare(5, 1)},
		"accepted":                   {accept(5, 1, up(2))},
		"accepted, another promised": {accept(2, 2, down(3)), prepare(5, 1)},
		"accepted by a lesser one":   {prepare(2, 0), accept(2, 0, none()), accept(2, 2, weight(0, 1)), prepare(3, 0), prepare(5, 1)},
	} {
		a := after(t, l...)
		before := told(a)
		for _, b := range []api.Ballot{at(1, 0), at(1, 2), at(2, 2), at(3, 0), at(4, 2), at(5, 0)} {
			checkRefused(t, name, a, call{b: b}, nack)
			checkRefused(t, name, a, call{accept: true, b: b, x: down(1)}, nack)
			checkRefused(t, name, a, call{accept: true, b: b, x: none()}, nack)
		}
		checkGoesOn(t, name, a, before)
	}
}

// TestEachWho: those below Mons alone, with a number above 0.
func TestEachWho(t *testing.T) {
	for _, n := range []uint32{0, 1, 2, 1 << 31, math.MaxUint32} {
		for i := range 256 {
			who := uint8(i)
			want := wrong
			if n > 0 && i < 3 {
				want = answer{}
			}
			if got := prepare(n, who).on(ballot.New()); got != want {
				t.Errorf("P10.1: Prepare(%d, %d): %+v, not %+v", n, who, got, want)
			}
			if got := accept(n, who, down(0)).on(ballot.New()); got != want {
				t.Errorf("P10.1: Accept(%d, %d): %+v, not %+v", n, who, got, want)
			}
		}
	}
}

// incs: all increments that there are, written out by their kinds.
func incs() map[api.Inc]int {
	all := map[api.Inc]int{none(): 1}
	for osd := range uint8(5) {
		all[up(osd)], all[down(osd)] = 1, 1
		for n := range 17 {
			all[weight(osd, n)] = 1
		}
	}
	return all
}

// TestEachIncrement: each kind, each daemon, weights about the limits; it is told as it was handed in.
func TestEachIncrement(t *testing.T) {
	good, found := incs(), 0
	for kind := range 256 {
		for osd := range 256 {
			for n := -2; n <= api.MaxWeight+2; n++ {
				x := api.Inc{Kind: uint8(kind), Osd: uint8(osd), N: n}
				want, then := wrong, holding{}
				if good[x] > 0 {
					want, then = answer{}, holding{at(3, 2), at(3, 2), x, true}
					found++
				}
				a := ballot.New()
				if got := (call{accept: true, b: at(3, 2), x: x}).on(a); got != want {
					t.Errorf("P10.1: Accept of %+v: %+v, not %+v", x, got, want)
				}
				if got := told(a); got != then {
					t.Errorf("P10.1: behind Accept of %+v: %+v, not %+v", x, got, then)
				}
			}
		}
	}
	if found != len(good) {
		t.Errorf("%d increments were tried, not %d", found, len(good))
	}
}

// TestOneTurnsNoOther: calls on one acceptor, while others lie at all places.
func TestOneTurnsNoOther(t *testing.T) {
	others := places(t)
	before := map[string]holding{}
	for name, a := range others {
		before[name] = told(a)
	}
	one := ballot.New()
	for i, c := range []call{
		prepare(1, 0), accept(1, 0, up(1)), prepare(9, 2), accept(9, 2, down(1)), prepare(4, 1), accept(0, 0, up(1)), prepare(math.MaxUint32, 2),
	} {
		c.on(one)
		for name, a := range others {
			if got := told(a); got != before[name] {
				t.Errorf("rule 6: call %d on another one: %s: %+v, not %+v", i, name, got, before[name])
			}
		}
		if got := told(ballot.New()); got != (holding{}) {
			t.Errorf("P10.1: a new one behind call %d: %+v", i, got)
		}
	}
	for name, a := range others {
		checkGoesOn(t, fmt.Sprint(name, ", behind calls on another one"), a, before[name])
	}
}
