package ballot_test

import (
	"math"
	"testing"

	"paddock/api"
	"paddock/ballot"
)

// holding: all that an acceptor tells of itself.
type holding struct {
	promised, acc api.Ballot
	inc           api.Inc
	has           bool
}

func told(a *ballot.Acceptor) holding {
	acc, x, has := a.Accepted()
	return holding{promised: a.Promised(), acc: acc, inc: x, has: has}
}

// answer of a call; that of Accept is its error alone.
type answer struct {
	acc api.Ballot
	inc api.Inc
	has bool
	e   api.Errno
}

// call: Prepare of b, or Accept of b and x.
type call struct {
	accept bool
	b      api.Ballot
	x      api.Inc
}

func prepare(n uint32, who uint8) call {
	return call{b: api.Ballot{N: n, Who: who}}
}

func accept(n uint32, who uint8, x api.Inc) call {
	return call{accept: true, b: api.Ballot{N: n, Who: who}, x: x}
}

func (c call) on(a *ballot.Acceptor) answer {
	if c.accept {
		return answer{e: a.Accept(c.b, c.x)}
	}
	acc, x, has, e := a.Prepare(c.b)
	return answer{acc, x, has, e}
}

// after: an acceptor behind calls that are all to be OK.
func after(t *testing.T, l ...call) *ballot.Acceptor {
	t.Helper()
	a := ballot.New()
	for _, c := range l {
		if got := c.on(a); got.e != api.OK {
			t.Fatalf("P10.1: %+v of %+v: %v", c, l, got.e)
		}
	}
	return a
}

func at(n uint32, who uint8) api.Ballot { return api.Ballot{N: n, Who: who} }

func down(osd uint8) api.Inc { return api.Inc{Kind: api.IDown, Osd: osd} }

func up(osd uint8) api.Inc { return api.Inc{Kind: api.IUp, Osd: osd} }

func weight(osd uint8, n int) api.Inc { return api.Inc{Kind: api.IWeight, Osd: osd, N: n} }

func none() api.Inc { return api.Inc{Kind: api.INone} }

// step: a call, what it is to answer, and what is to be held behind it.
type step struct {
	c    call
	want answer
	then holding
}

// checkSteps plays a row on a new acceptor; whatever is asked is asked twice: asking changes nothing.
func checkSteps(t *testing.T, name string, l []step) {
	t.Helper()
	a := ballot.New()
	if got := told(a); got != (holding{}) {
		t.Errorf("P10.1: %s: a new one: %+v", name, got)
	}
	for i, s := range l {
		if got := s.c.on(a); got != s.want {
			t.Errorf("P10.1: %s: step %d, %+v: %+v, not %+v", name, i, s.c, got, s.want)
		}
		for range 2 {
			if got := told(a); got != s.then {
				t.Errorf("P10.1: %s: behind step %d, %+v: %+v, not %+v", name, i, s.c, got, s.then)
			}
		}
	}
}

var nack = answer{e: api.ErrNack}

func TestNew(t *testing.T) {
	a := ballot.New()
	if a == nil {
		t.Fatal("P10.1: New: nil")
	}
	if got := a.Promised(); got != (api.Ballot{}) {
		t.Errorf("P10.1: New: promised %v", got)
	}
	if acc, x, has := a.Accepted(); acc != (api.Ballot{}) || x != (api.Inc{}) || has {
		t.Errorf("P10.1: New: accepted %v, %v, %v", acc, x, has)
	}
}

func TestPrepareWhenNothingWasAccepted(t *testing.T) {
	checkSteps(t, "the least one", []step{
		{prepare(1, 0), answer{}, holding{promised: at(1, 0)}},
	})
	checkSteps(t, "above, the very one, lesser ones", []step{
		{prepare(2, 1), answer{}, holding{promised: at(2, 1)}},
		{prepare(2, 1), answer{}, holding{promised: at(2, 1)}},
		{prepare(2, 0), nack, holding{promised: at(2, 1)}},
		{prepare(1, 2), nack, holding{promised: at(2, 1)}},
		{prepare(1, 0), nack, holding{promised: at(2, 1)}},
		{prepare(2, 2), answer{}, holding{promised: at(2, 2)}},
		{prepare(2, 1), nack, holding{promised: at(2, 2)}},
		{prepare(3, 0), answer{}, holding{promised: at(3, 0)}},
		{prepare(9, 0), answer{}, holding{promised: at(9, 0)}},
		{prepare(9, 0), answer{}, holding{promised: at(9, 0)}},
	})
}

func TestPrepareTellsTheOneThatWasAccepted(t *testing.T) {
	x := weight(3, 16)
	held := func(n uint32, who uint8) holding {
		return holding{promised: at(n, who), acc: at(2, 1), inc: x, has: true}
	}
	tells := answer{acc: at(2, 1), inc: x, has: true}
	checkSteps(t, "one", []step{
		{prepare(2, 1), answer{}, holding{promised: at(2, 1)}},
		{accept(2, 1, x), answer{}, held(2, 1)},
		{prepare(2, 1), tells, held(2, 1)},
		{prepare(2, 0), nack, held(2, 1)},
		{prepare(1, 2), nack, held(2, 1)},
		{prepare(2, 2), tells, held(2, 2)},
		{prepare(2, 2), tells, held(2, 2)},
		{prepare(5, 0), tells, held(5, 0)},
		{prepare(4, 2), nack, held(5, 0)},
		{prepare(6, 1), tells, held(6, 1)},
	})
}

func TestPrepareTellsTheLastOfSeveral(t *testing.T) {
	checkSteps(t, "several", []step{
		{accept(1, 0, down(1)), answer{}, holding{at(1, 0), at(1, 0), down(1), true}},
		{accept(1, 2, up(1)), answer{}, holding{at(1, 2), at(1, 2), up(1), true}},
		{prepare(3, 0), answer{acc: at(1, 2), inc: up(1), has: true}, holding{at(3, 0), at(1, 2), up(1), true}},
		{accept(3, 0, weight(4, 0)), answer{}, holding{at(3, 0), at(3, 0), weight(4, 0), true}},
		{prepare(3, 0), answer{acc: at(3, 0), inc: weight(4, 0), has: true}, holding{at(3, 0), at(3, 0), weight(4, 0), true}},
		{accept(4, 1, none()), answer{}, holding{at(4, 1), at(4, 1), none(), true}},
		{prepare(7, 2), answer{acc: at(4, 1), inc: none(), has: true}, holding{at(7, 2), at(4, 1), none(), true}},
		{accept(4, 1, down(0)), nack, holding{at(7, 2), at(4, 1), none(), true}},
		{prepare(8, 0), answer{acc: at(4, 1), inc: none(), has: true}, holding{at(8, 0), at(4, 1), none(), true}},
	})
}

func TestAcceptWithoutAPrepareAhead(t *testing.T) {
	checkSteps(t, "the least one", []step{
		{accept(1, 0, up(0)), answer{}, holding{at(1, 0), at(1, 0), up(0), true}},
		{prepare(1, 0), answer{acc: at(1, 0), inc: up(0), has: true}, holding{at(1, 0), at(1, 0), up(0), true}},
	})
	checkSteps(t, "it is promised with it", []step{
		{accept(5, 1, up(0)), answer{}, holding{at(5, 1), at(5, 1), up(0), true}},
		{prepare(5, 0), nack, holding{at(5, 1), at(5, 1), up(0), true}},
		{accept(4, 2, up(1)), nack, holding{at(5, 1), at(5, 1), up(0), true}},
	})
}

func TestAccept(t *testing.T) {
	checkSteps(t, "above, the very one, lesser ones", []step{
		{prepare(2, 1), answer{}, holding{promised: at(2, 1)}},
		{accept(2, 0, down(1)), nack, holding{promised: at(2, 1)}},
		{accept(1, 2, down(1)), nack, holding{promised: at(2, 1)}},
		{accept(2, 1, down(1)), answer{}, holding{at(2, 1), at(2, 1), down(1), true}},
		{accept(2, 1, down(1)), answer{}, holding{at(2, 1), at(2, 1), down(1), true}},
		{accept(2, 0, down(2)), nack, holding{at(2, 1), at(2, 1), down(1), true}},
		{accept(2, 2, down(3)), answer{}, holding{at(2, 2), at(2, 2), down(3), true}},
		{accept(2, 1, down(1)), nack, holding{at(2, 2), at(2, 2), down(3), true}},
		{accept(9, 0, none()), answer{}, holding{at(9, 0), at(9, 0), none(), true}},
		{accept(8, 2, down(4)), nack, holding{at(9, 0), at(9, 0), none(), true}},
		{accept(2, 2, down(3)), nack, holding{at(9, 0), at(9, 0), none(), true}},
	})
	checkSteps(t, "the very one twice, unlike increments", []step{
		{accept(2, 1, down(1)), answer{}, holding{at(2, 1), at(2, 1), down(1), true}},
		{accept(2, 1, up(1)), answer{}, holding{at(2, 1), at(2, 1), up(1), true}},
	})
}

// TestTheChaptersExample: Prepare(2, 0), then Accept(1, 2).
func TestTheChaptersExample(t *testing.T) {
	checkSteps(t, "the example", []step{
		{prepare(2, 0), answer{}, holding{promised: at(2, 0)}},
		{accept(1, 2, down(2)), nack, holding{promised: at(2, 0)}},
	})
}

func TestTheGreatestNumber(t *testing.T) {
	const most = math.MaxUint32
	last := holding{at(most, 2), at(most, 2), down(4), true}
	checkSteps(t, "the greatest number", []step{
		{prepare(most-1, 2), answer{}, holding{promised: at(most-1, 2)}},
		{prepare(most, 0), answer{}, holding{promised: at(most, 0)}},
		{prepare(1, 2), nack, holding{promised: at(most, 0)}},
		{prepare(most-1, 2), nack, holding{promised: at(most, 0)}},
		{accept(most, 0, up(4)), answer{}, holding{at(most, 0), at(most, 0), up(4), true}},
		{prepare(most, 2), answer{acc: at(most, 0), inc: up(4), has: true}, holding{at(most, 2), at(most, 0), up(4), true}},
		{accept(most, 2, down(4)), answer{}, last},
		{accept(most, 1, down(4)), nack, last},
		{accept(1, 0, down(4)), nack, last},
		{prepare(most, 1), nack, last},
		{prepare(most, 2), answer{acc: at(most, 2), inc: down(4), has: true}, last},
		{accept(most, 2, down(4)), answer{}, last},
	})
}

// TestEachMonitorsBallots: of N 1, and of the greatest one.
func TestEachMonitorsBallots(t *testing.T) {
	for _, n := range []uint32{1, math.MaxUint32} {
		for who := range uint8(api.Mons) {
			a := after(t, prepare(n, who), accept(n, who, down(who)))
			if got, want := told(a), (holding{at(n, who), at(n, who), down(who), true}); got != want {
				t.Errorf("P10.1: %+v, not %+v", got, want)
			}
		}
	}
}
