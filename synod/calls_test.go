package synod_test

import (
	"math"
	"testing"

	"paddock/api"
	"paddock/synod"
)

// view: all that a proposer tells of itself.
type view struct {
	ballot         api.Ballot
	value, decided api.Inc
	has, is        bool // a value; decided
}

func told(p *synod.Proposer) view {
	v := view{ballot: p.Ballot()}
	v.value, v.has = p.Value()
	v.decided, v.is = p.Decided()
	return v
}

// Kinds of calls.
const (
	starts = iota
	promises
	accepts
)

// call: Start over b, Promise or Accepted from one of b.
type call struct {
	kind int
	from uint8
	b    api.Ballot
	acc  api.Ballot
	x    api.Inc
	has  bool
}

// answer: Start's ballot, or what the others tell.
type answer struct {
	ballot api.Ballot
	tells  bool
}

func (c call) on(p *synod.Proposer) answer {
	switch c.kind {
	case starts:
		return answer{ballot: p.Start(c.b)}
	case promises:
		return answer{tells: p.Promise(c.from, c.b, c.acc, c.x, c.has)}
	}
	return answer{tells: p.Accepted(c.from, c.b)}
}

func at(n uint32, who uint8) api.Ballot { return api.Ballot{N: n, Who: who} }

func down(osd uint8) api.Inc { return api.Inc{Kind: api.IDown, Osd: osd} }

func weight(osd uint8, n int) api.Inc { return api.Inc{Kind: api.IWeight, Osd: osd, N: n} }

func start(over api.Ballot) call { return call{kind: starts, b: over} }

// free: a promise of one that had accepted nothing.
func free(from uint8, b api.Ballot) call { return call{kind: promises, from: from, b: b} }

// bound: a promise of one that had accepted x by acc.
func bound(from uint8, b, acc api.Ballot, x api.Inc) call {
	return call{kind: promises, from: from, b: b, acc: acc, x: x, has: true}
}

func accepted(from uint8, b api.Ballot) call { return call{kind: accepts, from: from, b: b} }

// step: a call, what it is to answer, and what is to be told behind it.
type step struct {
	c    call
	want answer
	then view
}

var yes, no = answer{tells: true}, answer{}

func is(b api.Ballot) answer { return answer{ballot: b} }

func without(b api.Ballot) view { return view{ballot: b} }

func with(b api.Ballot, x api.Inc) view { return view{ballot: b, value: x, has: true} }

// also: the same one, with x decided.
func (v view) also(x api.Inc) view {
	v.decided, v.is = x, true
	return v
}

// checkSteps plays a row on a new proposer; whatever is asked is asked twice: asking changes nothing.
func checkSteps(t *testing.T, name string, p *synod.Proposer, l []step) {
	t.Helper()
	if got := told(p); got != (view{}) {
		t.Errorf("P11.1: %s: a new one: %+v", name, got)
	}
	for i, s := range l {
		if got := s.c.on(p); got != s.want {
			t.Errorf("P11.1, P11.2: %s: step %d, %+v: %+v, not %+v", name, i, s.c, got, s.want)
		}
		for range 2 {
			if got := told(p); got != s.then {
				t.Errorf("P11.1, P11.2: %s: behind step %d, %+v: %+v, not %+v", name, i, s.c, got, s.then)
			}
		}
	}
}

func TestQuorum(t *testing.T) {
	if got := synod.Quorum(); got != 2 {
		t.Errorf("P11.1: Quorum: %d", got)
	}
}

func TestNew(t *testing.T) {
	for who := range 256 {
		for _, x := range []api.Inc{down(2), weight(4, 16), {Kind: api.INone}, {}, {Kind: 255, Osd: 255, N: math.MinInt}} {
			p := synod.New(uint8(who), x)
			if p == nil {
				t.Fatal("P11.1: New: nil")
			}
			if got := told(p); got != (view{}) {
				t.Errorf("P11.1: New(%d, %v): %+v", who, x, got)
			}
		}
	}
}

// TestStartOverEachNumber: below, at and above its own; its Who is its own, whatever over's is.
func TestStartOverEachNumber(t *testing.T) {
	const most = math.MaxUint32
	for _, c := range []struct{ own, over, want uint32 }{
		{0, 0, 1}, {0, 1, 2}, {0, 6, 7}, {0, most - 2, most - 1}, {0, most - 1, most}, {0, most, most},
		{1, 0, 2}, {1, 1, 2}, {1, 2, 3},
		{7, 0, 8}, {7, 6, 8}, {7, 7, 8}, {7, 8, 9}, {7, 255, 256}, {7, 1 << 31, 1<<31 + 1}, {7, most, most},
		{1<<31 - 1, 5, 1 << 31}, {1 << 31, 5, 1<<31 + 1}, {1 << 31, 1<<31 - 1, 1<<31 + 1},
		{most - 1, 0, most}, {most - 1, most - 2, most}, {most - 1, most - 1, most}, {most - 1, most, most},
		{most, 0, most}, {most, 7, most}, {most, most - 1, most}, {most, most, most},
	} {
		for _, who := range []uint8{0, 1, 2, 3, 255} {
			for _, others := range []uint8{0, 1, 2, 3, 255} {
				p := synod.New(who, down(1))
				if c.own > 0 {
					p.Start(at(c.own-1, others))
				}
				own := p.Ballot()
				if c.own > 0 && own != at(c.own, who) {
					t.Fatalf("P11.1: %d: Start over %d: %v", who, c.own-1, own)
				}
				got := p.Start(at(c.over, others))
				if want := at(c.want, who); got != want || told(p) != without(want) {
					t.Errorf("P11.1: %d with %v: Start over %v: %v, %+v, not %v", who, own, at(c.over, others), got, told(p), want)
				}
			}
		}
	}
}

func TestStartsInARow(t *testing.T) {
	checkSteps(t, "over nothing, over its own, over others", synod.New(2, down(1)), []step{
		{start(api.Ballot{}), is(at(1, 2)), without(at(1, 2))},
		{start(api.Ballot{}), is(at(2, 2)), without(at(2, 2))},
		{start(at(2, 2)), is(at(3, 2)), without(at(3, 2))},
		{start(at(2, 1)), is(at(4, 2)), without(at(4, 2))},
		{start(at(9, 0)), is(at(10, 2)), without(at(10, 2))},
		{start(at(10, 1)), is(at(11, 2)), without(at(11, 2))},
	})
}

// TestStartLetsAllGo: what was heard for a ballot is nothing to the next one, at each place that the last one may have come to.
func TestStartLetsAllGo(t *testing.T) {
	b, c := at(1, 1), at(2, 1)
	x := down(3)
	for name, ahead := range map[string][]call{
		"nothing heard":                  {},
		"one promise":                    {free(0, b)},
		"one promise of an accepted":     {bound(0, b, at(9, 0), x)},
		"a value":                        {free(0, b), free(1, b)},
		"a value that was accepted":      {bound(0, b, at(9, 0), x), free(1, b)},
		"a value, accepted by one":       {free(0, b), free(1, b), accepted(0, b)},
		"a value, accepted by two":       {free(0, b), free(1, b), accepted(0, b), accepted(1, b)},
		"a value, accepted by all":       {free(0, b), free(1, b), accepted(0, b), accepted(1, b), accepted(2, b)},
		"another value, accepted by two": {bound(0, b, at(9, 0), x), free(2, b), accepted(0, b), accepted(1, b)},
	} {
		p := synod.New(1, down(1))
		p.Start(api.Ballot{})
		for _, k := range ahead {
			k.on(p)
		}
		kept := view{}
		kept.decided, kept.is = p.Decided()
		then := func(v view) view {
			v.decided, v.is = kept.decided, kept.is
			return v
		}
		for i, s := range []step{
			{start(api.Ballot{}), is(c), then(without(c))},
			{accepted(0, c), no, then(without(c))},
			{accepted(1, c), no, then(without(c))},
			{free(0, c), no, then(without(c))},
			{free(0, c), no, then(without(c))},
			{free(1, c), yes, then(with(c, down(1)))},
			{accepted(0, c), no, then(with(c, down(1)))},
			{accepted(1, c), yes, with(c, down(1)).also(down(1))},
		} {
			if got := s.c.on(p); got != s.want || told(p) != s.then {
				t.Errorf("P11.1: behind %s: step %d, %+v: %+v, %+v, not %+v, %+v", name, i, s.c, got, told(p), s.want, s.then)
			}
		}
	}
}

// TestStartAtTheGreatestNumber: the ballot is the same one again, and yet nothing is heard for it.
func TestStartAtTheGreatestNumber(t *testing.T) {
	b := at(math.MaxUint32, 1)
	x := down(3)
	checkSteps(t, "the greatest number", synod.New(1, down(1)), []step{
		{start(at(math.MaxUint32, 2)), is(b), without(b)},
		{bound(0, b, at(4, 0), x), no, without(b)},
		{start(api.Ballot{}), is(b), without(b)},
		{free(1, b), no, without(b)},
		{free(0, b), yes, with(b, down(1))},
		{accepted(2, b), no, with(b, down(1))},
		{start(b), is(b), without(b)},
		{accepted(2, b), no, without(b)},
		{bound(2, b, at(4, 0), x), no, without(b)},
		{free(0, b), yes, with(b, x)},
		{accepted(0, b), no, with(b, x)},
		{accepted(2, b), yes, with(b, x).also(x)},
		{start(at(7, 0)), is(b), without(b).also(x)},
		{free(1, b), no, without(b).also(x)},
		{free(2, b), yes, with(b, down(1)).also(x)},
		{accepted(0, b), no, with(b, down(1)).also(x)},
		{accepted(1, b), yes, with(b, down(1)).also(down(1))},
	})
}

// TestAnyTwo: it takes any two of the three, itself or not, for the value and for what is decided.
func TestAnyTwo(t *testing.T) {
	b := at(1, 1)
	for i := range uint8(api.Mons) {
		for k := range uint8(api.Mons) {
			for u := range uint8(api.Mons) {
				for v := range uint8(api.Mons) {
					if i == k || u == v {
						continue
					}
					checkSteps(t, "any two", synod.New(1, down(4)), []step{
						{start(api.Ballot{}), is(b), without(b)},
						{free(i, b), no, without(b)},
						{free(k, b), yes, with(b, down(4))},
						{free(3-i-k, b), no, with(b, down(4))},
						{accepted(u, b), no, with(b, down(4))},
						{accepted(v, b), yes, with(b, down(4)).also(down(4))},
						{accepted(3-u-v, b), no, with(b, down(4)).also(down(4))},
					})
				}
			}
		}
	}
}

// TestTwoPromisesOfNothing: the chapter's example; what lies beside a has that is false doesn't count.
func TestTwoPromisesOfNothing(t *testing.T) {
	b := at(7, 1)
	beside := func(from uint8, acc api.Ballot) call {
		return call{kind: promises, from: from, b: b, acc: acc, x: down(0)}
	}
	for name, l := range map[string][2]call{
		"zeros beside it":              {free(0, b), free(2, b)},
		"a ballot beside one":          {beside(0, at(6, 2)), free(2, b)},
		"ballots beside both":          {beside(0, at(6, 2)), beside(2, at(math.MaxUint32, 2))},
		"a zero one with an increment": {beside(0, api.Ballot{}), beside(2, api.Ballot{})},
	} {
		checkSteps(t, name, synod.New(1, weight(2, 5)), []step{
			{start(at(6, 2)), is(b), without(b)},
			{l[0], no, without(b)},
			{l[1], yes, with(b, weight(2, 5))},
		})
	}
}

// TestTheGreatestCounts: of two promises, whichever comes first.
func TestTheGreatestCounts(t *testing.T) {
	b := at(20, 1)
	mine, one, other := weight(2, 5), down(0), down(3)
	beside := call{kind: promises, from: 1, b: b, acc: at(19, 2), x: down(4)}
	for _, c := range []struct {
		name         string
		a, c         call
		ahead, later api.Inc // the value, if a comes first; if c does
	}{
		{"one of two has one", bound(0, b, at(3, 0), one), free(1, b), one, one},
		{"one has one, the least ballot", bound(0, b, at(1, 0), one), free(1, b), one, one},
		{"one has one, the other tells a greater ballot beside false", bound(0, b, at(3, 0), one), beside, one, one},
		{"one has a zero ballot", bound(0, b, api.Ballot{}, one), free(1, b), one, one},
		{"one has a zero ballot, the other tells a greater one beside false", bound(0, b, api.Ballot{}, one), beside, one, one},
		{"unlike N", bound(0, b, at(3, 0), one), bound(1, b, at(4, 0), other), other, other},
		{"a greater N with a lesser Who", bound(0, b, at(3, 2), one), bound(1, b, at(4, 0), other), other, other},
		{"the same N, unlike Who", bound(0, b, at(3, 1), one), bound(1, b, at(3, 2), other), other, other},
		{"a zero ballot and the least one", bound(0, b, api.Ballot{}, one), bound(1, b, at(1, 0), other), other, other},
		{"its own ballot", bound(0, b, at(19, 2), one), bound(1, b, b, other), other, other},
		{"a ballot above its own", bound(0, b, at(20, 2), one), bound(1, b, b, other), one, one},
		{"the greatest ballot", bound(0, b, at(math.MaxUint32-1, 2), one), bound(1, b, at(math.MaxUint32, 0), other), other, other},
		{"numbers about 2^31", bound(0, b, at(1<<31-1, 0), one), bound(1, b, at(1<<31, 0), other), other, other},
		{"whoever is no monitor", bound(0, b, at(3, 2), one), bound(1, b, at(3, 255), other), other, other},
		{"as great, the same increment", bound(0, b, at(3, 1), one), bound(1, b, at(3, 1), one), one, one},
		{"as great: the first that was heard", bound(0, b, at(3, 1), one), bound(1, b, at(3, 1), other), one, other},
		{"zero ones: the first that was heard", bound(0, b, api.Ballot{}, one), bound(1, b, api.Ballot{}, other), one, other},
		{"what it wants itself", bound(0, b, at(3, 1), mine), bound(1, b, at(3, 0), other), mine, mine},
		{"what is no increment counts as it is", bound(0, b, at(3, 1), api.Inc{}), free(1, b), api.Inc{}, api.Inc{}},
		{"what is no increment, above another one", bound(0, b, at(3, 1), api.Inc{Kind: 9, N: -1}), bound(1, b, at(3, 0), one), api.Inc{Kind: 9, N: -1}, api.Inc{Kind: 9, N: -1}},
	} {
		for _, side := range []struct {
			first, second call
			want          api.Inc
		}{{c.a, c.c, c.ahead}, {c.c, c.a, c.later}} {
			checkSteps(t, c.name, synod.New(1, mine), []step{
				{start(at(19, 0)), is(b), without(b)},
				{side.first, no, without(b)},
				{side.second, yes, with(b, side.want)},
				{accepted(2, b), no, with(b, side.want)},
				{accepted(0, b), yes, with(b, side.want).also(side.want)},
			})
		}
	}
}

// TestAPromiseBehindTheValue turns nothing, however great what it had accepted.
func TestAPromiseBehindTheValue(t *testing.T) {
	b := at(5, 0)
	late := bound(2, b, at(4, 2), down(3))
	checkSteps(t, "behind its own value", synod.New(0, down(1)), []step{
		{start(at(4, 1)), is(b), without(b)},
		{free(0, b), no, without(b)},
		{free(1, b), yes, with(b, down(1))},
		{late, no, with(b, down(1))},
		{late, no, with(b, down(1))},
		{accepted(1, b), no, with(b, down(1))},
		{late, no, with(b, down(1))},
		{accepted(2, b), yes, with(b, down(1)).also(down(1))},
		{late, no, with(b, down(1)).also(down(1))},
		{free(0, b), no, with(b, down(1)).also(down(1))},
	})
	checkSteps(t, "behind a value that was accepted", synod.New(0, down(1)), []step{
		{start(at(4, 1)), is(b), without(b)},
		{bound(0, b, at(2, 0), down(2)), no, without(b)},
		{free(1, b), yes, with(b, down(2))},
		{late, no, with(b, down(2))},
		{accepted(0, b), no, with(b, down(2))},
		{accepted(1, b), yes, with(b, down(2)).also(down(2))},
		{late, no, with(b, down(2)).also(down(2))},
	})
}

// TestOneHeardTwice: its second word counts for nothing, whatever it tells.
func TestOneHeardTwice(t *testing.T) {
	b := at(5, 0)
	checkSteps(t, "one heard twice", synod.New(0, down(1)), []step{
		{start(at(4, 1)), is(b), without(b)},
		{free(2, b), no, without(b)},
		{free(2, b), no, without(b)},
		{bound(2, b, at(4, 2), down(3)), no, without(b)},
		{free(1, b), yes, with(b, down(1))},
	})
	checkSteps(t, "one heard twice, first of an accepted one", synod.New(0, down(1)), []step{
		{start(at(4, 1)), is(b), without(b)},
		{bound(2, b, at(3, 2), down(3)), no, without(b)},
		{bound(2, b, at(4, 2), down(4)), no, without(b)},
		{free(2, b), no, without(b)},
		{free(0, b), yes, with(b, down(3))},
	})
}

func TestAccepted(t *testing.T) {
	b := at(5, 2)
	v := with(b, down(1))
	checkSteps(t, "ahead of a value, twice, when two have, later ones", synod.New(2, down(1)), []step{
		{start(at(4, 1)), is(b), without(b)},
		{accepted(0, b), no, without(b)},
		{free(0, b), no, without(b)},
		{accepted(0, b), no, without(b)},
		{accepted(1, b), no, without(b)},
		{accepted(2, b), no, without(b)},
		{free(1, b), yes, v},
		{accepted(0, b), no, v},
		{accepted(0, b), no, v},
		{accepted(0, b), no, v},
		{accepted(1, b), yes, v.also(down(1))},
		{accepted(1, b), no, v.also(down(1))},
		{accepted(0, b), no, v.also(down(1))},
		{accepted(2, b), no, v.also(down(1))},
		{accepted(2, b), no, v.also(down(1))},
	})
	checkSteps(t, "by one that wasn't heard", synod.New(2, down(1)), []step{
		{start(at(4, 1)), is(b), without(b)},
		{free(0, b), no, without(b)},
		{free(1, b), yes, v},
		{accepted(2, b), no, v},
		{accepted(0, b), yes, v.also(down(1))},
	})
}

// TestWhatWasDecidedStays behind later ballots, until by one of these something is decided.
func TestWhatWasDecidedStays(t *testing.T) {
	b, c, d, e := at(1, 0), at(5, 0), at(6, 0), at(9, 0)
	mine, x := down(1), weight(3, 0)
	checkSteps(t, "later ballots", synod.New(0, mine), []step{
		{start(api.Ballot{}), is(b), without(b)},
		{free(0, b), no, without(b)},
		{free(1, b), yes, with(b, mine)},
		{accepted(0, b), no, with(b, mine)},
		{accepted(2, b), yes, with(b, mine).also(mine)},
		{start(at(4, 1)), is(c), without(c).also(mine)},
		{accepted(1, b), no, without(c).also(mine)},
		{bound(0, c, at(4, 1), x), no, without(c).also(mine)},
		{free(1, c), yes, with(c, x).also(mine)},
		{accepted(1, c), no, with(c, x).also(mine)},
		{start(at(5, 0)), is(d), without(d).also(mine)},
		{bound(1, d, c, x), no, without(d).also(mine)},
		{free(2, d), yes, with(d, x).also(mine)},
		{accepted(0, d), no, with(d, x).also(mine)},
		{accepted(1, d), yes, with(d, x).also(x)},
		{start(at(8, 2)), is(e), without(e).also(x)},
		{free(1, e), no, without(e).also(x)},
		{free(2, e), yes, with(e, mine).also(x)},
		{accepted(0, e), no, with(e, mine).also(x)},
		{accepted(2, e), yes, with(e, mine).also(mine)},
	})
}

// TestOneThatIsNoMonitor goes by the same words: its Who is its own.
func TestOneThatIsNoMonitor(t *testing.T) {
	for _, who := range []uint8{api.Mons, 255} {
		b := at(3, who)
		x := api.Inc{Kind: 77, Osd: 200, N: math.MaxInt}
		checkSteps(t, "no monitor, no increment", synod.New(who, x), []step{
			{start(at(2, 1)), is(b), without(b)},
			{free(who, b), no, without(b)},
			{free(0, b), no, without(b)},
			{free(2, b), yes, with(b, x)},
			{accepted(who, b), no, with(b, x)},
			{accepted(1, b), no, with(b, x)},
			{accepted(2, b), yes, with(b, x).also(x)},
		})
	}
}
