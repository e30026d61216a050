package synod_test

import (
	"math"
	"testing"

	"paddock/api"
	"paddock/synod"
)

// own: the ballot of the proposers of places, all of which but the first have it.
var own = at(5, 1)

// places: the calls that lead to all that a proposer (1, which wants down(1)) may have come to, by name.
func places() map[string][]call {
	return map[string][]call{
		"new":                      {},
		"started":                  {start(at(4, 2))},
		"one promise":              {start(at(4, 2)), free(2, own)},
		"one promise of an x":      {start(at(4, 2)), bound(2, own, at(2, 2), down(3))},
		"a value":                  {start(at(4, 2)), free(0, own), free(2, own)},
		"a value that is an x":     {start(at(4, 2)), free(1, own), bound(2, own, at(2, 2), down(3))},
		"accepted by one":          {start(at(4, 2)), free(0, own), free(2, own), accepted(0, own)},
		"decided":                  {start(at(4, 2)), free(0, own), free(2, own), accepted(0, own), accepted(1, own)},
		"decided, started again":   {start(at(2, 0)), free(0, at(3, 1)), free(2, at(3, 1)), accepted(0, at(3, 1)), accepted(1, at(3, 1)), start(at(4, 2))},
		"started with a value":     {start(at(2, 0)), free(0, at(3, 1)), free(2, at(3, 1)), start(at(4, 2))},
		"started with one promise": {start(at(2, 0)), free(0, at(3, 1)), start(at(4, 2))},
	}
}

func led(l []call) *synod.Proposer {
	p := synod.New(1, down(1))
	for _, c := range l {
		c.on(p)
	}
	return p
}

// further: what shows all that is kept of a proposer at a place: calls for its ballot, and for the next one.
func further() []call {
	return []call{
		accepted(0, own), bound(0, own, at(3, 0), down(2)), accepted(2, own), free(2, own), accepted(1, own), free(1, own), accepted(0, own), accepted(2, own),
		start(own), free(0, at(6, 1)), accepted(2, at(6, 1)), bound(1, at(6, 1), at(1, 0), down(4)), accepted(1, at(6, 1)), accepted(0, at(6, 1)),
	}
}

// checkLikeUntouched: a proposer goes on from its place as one that was told nothing else.
func checkLikeUntouched(t *testing.T, name string, p *synod.Proposer) {
	t.Helper()
	untouched := led(places()[name])
	for i, c := range further() {
		got, want := c.on(p), c.on(untouched)
		if got != want || told(p) != told(untouched) {
			t.Errorf("P11.2: %s, behind calls that count for nothing: step %d, %+v: %+v, %+v, not %+v, %+v", name, i, c, got, told(p), want, told(untouched))
		}
	}
}

// checkNothing plays calls, each of which is to tell false and to turn nothing, at all places but those that skip names.
func checkNothing(t *testing.T, l []call, skip ...string) {
	t.Helper()
	all := places()
	for _, name := range skip {
		if all[name] == nil {
			t.Fatalf("no place %s", name)
		}
		delete(all, name)
	}
	for name, ahead := range all {
		p := led(ahead)
		before := told(p)
		for _, c := range l {
			for range 2 {
				if got := c.on(p); got != no {
					t.Errorf("P11.2: %s: %+v: %+v", name, c, got)
				}
				if got := told(p); got != before {
					t.Errorf("P11.2: %s: behind %+v: %+v, not %+v", name, c, got, before)
				}
			}
		}
		checkLikeUntouched(t, name, p)
	}
}

// ofBallot: promises and accepts of b from each monitor and some others.
func ofBallot(b api.Ballot) []call {
	var l []call
	for _, from := range []uint8{0, 1, 2, 3, 10, 255} {
		l = append(l, free(from, b), bound(from, b, at(4, 0), down(2)), bound(from, b, b, down(2)), accepted(from, b))
	}
	return l
}

// TestABallotThatIsntItsOwn: by N, by Who, an earlier one of its own, the zero one.
func TestABallotThatIsntItsOwn(t *testing.T) {
	var l []call
	for _, b := range []api.Ballot{
		{}, at(0, 1), at(5, 0), at(5, 2), at(5, 3), at(5, 255), at(4, 1), at(4, 2), at(3, 1), at(6, 1), at(1, 5),
		at(5+1<<8, 1), at(5+1<<16, 1), at(math.MaxUint32, 1), at(math.MaxUint32, 255),
	} {
		l = append(l, ofBallot(b)...)
	}
	checkNothing(t, l)
}

// TestAnyBallotWhileItHasNone: the ones that would be its own next, too.
func TestAnyBallotWhileItHasNone(t *testing.T) {
	for _, who := range []uint8{0, 1, 2, 255} {
		p := synod.New(who, down(1))
		for _, b := range []api.Ballot{{}, at(0, who), at(1, who), at(1, 0), at(7, who), at(math.MaxUint32, who)} {
			for _, c := range ofBallot(b) {
				if got := c.on(p); got != no || told(p) != (view{}) {
					t.Errorf("P11.2: %d without a ballot: %+v: %+v, %+v", who, c, got, told(p))
				}
			}
		}
		b := at(1, who)
		for i, s := range []step{
			{start(api.Ballot{}), is(b), without(b)},
			{accepted(0, b), no, without(b)},
			{free(0, b), no, without(b)},
			{free(1, b), yes, with(b, down(1))},
			{accepted(0, b), no, with(b, down(1))},
			{accepted(1, b), yes, with(b, down(1)).also(down(1))},
		} {
			if got := s.c.on(p); got != s.want || told(p) != s.then {
				t.Errorf("P11.2: %d, behind what was told ahead of a ballot: step %d, %+v: %+v, %+v", who, i, s.c, got, told(p))
			}
		}
	}
}

// TestFromAtMonsAndAbove: all of them.
func TestFromAtMonsAndAbove(t *testing.T) {
	var l []call
	for from := api.Mons; from < 256; from++ {
		l = append(l, free(uint8(from), own), bound(uint8(from), own, at(4, 2), down(2)), accepted(uint8(from), own))
	}
	checkNothing(t, l)
}

func TestOnesThatWereHeard(t *testing.T) {
	var again []call
	for _, acc := range []api.Ballot{{}, at(1, 0), at(4, 2), at(math.MaxUint32, 2)} {
		again = append(again, free(2, own), bound(2, own, acc, down(2)))
	}
	checkNothing(t, again, "started", "decided, started again", "started with a value", "started with one promise")
	checkNothing(t, []call{accepted(0, own)}, "a value", "a value that is an x")
}

// TestWithAValueAndWithout: promises are for nothing where there is one, accepts where there is none.
func TestWithAValueAndWithout(t *testing.T) {
	var late, early []call
	for from := range uint8(api.Mons) {
		late = append(late, free(from, own), bound(from, own, at(4, 2), down(2)), bound(from, own, own, down(2)))
		early = append(early, accepted(from, own))
	}
	checkNothing(t, late, "started", "one promise", "one promise of an x", "decided, started again", "started with a value", "started with one promise")
	checkNothing(t, early, "a value", "a value that is an x", "accepted by one")
}

// TestZeroBesideFalse: what Value and Decided tell where there is nothing to tell, also where there was a value ahead of a later start.
func TestZeroBesideFalse(t *testing.T) {
	for name, l := range places() {
		p := led(l)
		if x, has := p.Value(); !has && x != (api.Inc{}) {
			t.Errorf("rule 4: %s: Value: %v beside false", name, x)
		}
		if x, is := p.Decided(); !is && x != (api.Inc{}) {
			t.Errorf("rule 4: %s: Decided: %v beside false", name, x)
		}
	}
	p := led(places()["decided, started again"])
	if x, has := p.Value(); has || x != (api.Inc{}) {
		t.Errorf("P11.1: a value behind a later start: %v, %v", x, has)
	}
	p = led(places()["accepted by one"])
	if x, is := p.Decided(); is || x != (api.Inc{}) {
		t.Errorf("P11.2: decided by one alone: %v, %v", x, is)
	}
}

// TestOneTurnsNoOther: calls on one proposer, while others, of the same number too, lie at all places.
func TestOneTurnsNoOther(t *testing.T) {
	others := map[string]*synod.Proposer{}
	before := map[string]view{}
	for name, l := range places() {
		others[name] = led(l)
		before[name] = told(others[name])
	}
	one := synod.New(1, weight(0, 9))
	l := append([]call{start(at(4, 0)), free(1, own)}, further()...)
	for i, c := range append(l, start(at(math.MaxUint32, 2))) {
		c.on(one)
		for name, p := range others {
			if got := told(p); got != before[name] {
				t.Errorf("rule 6: call %d on another one: %s: %+v, not %+v", i, name, got, before[name])
			}
		}
		if got := told(synod.New(1, down(1))); got != (view{}) {
			t.Errorf("P11.1: a new one behind call %d: %+v", i, got)
		}
	}
	for name, p := range others {
		checkLikeUntouched(t, name, p)
	}
}
