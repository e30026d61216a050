package net_test

import (
	"fmt"
	"math/rand/v2"
	"slices"
	"testing"

	"paddock/api"
	"paddock/net"
	"paddock/wire"
)

// Kinds of turns.
const (
	toSend = iota
	toTake
	toDrop
	toDouble
)

// turn: a call that changes something; m is what is sent, i which one is meant.
type turn struct {
	kind, i int
	m       api.Msg
}

func (c turn) String() string {
	return fmt.Sprintf("%s(%d, kind %d)", [...]string{"Send", "Take", "Drop", "Double"}[c.kind], c.i, c.m.Kind)
}

func (c turn) on(b *net.Bag) (api.Msg, api.Errno) {
	switch c.kind {
	case toSend:
		return api.Msg{}, b.Send(c.m)
	case toTake:
		return b.Take(c.i)
	case toDrop:
		return api.Msg{}, b.Drop(c.i)
	}
	return api.Msg{}, b.Double(c.i)
}

// onPlain: what the chapter says of it: the row that is left, what is told. A row is never written into.
func (c turn) onPlain(row []api.Msg) ([]api.Msg, api.Msg, api.Errno) {
	if c.kind == toSend {
		switch {
		case !wire.Is(c.m):
			return row, api.Msg{}, api.ErrForm
		case len(row) == api.MaxBag:
			return row, api.Msg{}, api.ErrFull
		}
		return slices.Concat(row, []api.Msg{c.m}), api.Msg{}, api.OK
	}
	if c.i < 0 || c.i >= len(row) {
		return row, api.Msg{}, api.ErrNone
	}
	without := slices.Concat(row[:c.i], row[c.i+1:])
	switch {
	case c.kind == toTake:
		return without, row[c.i], api.OK
	case c.kind == toDrop:
		return without, api.Msg{}, api.OK
	case len(row) == api.MaxBag:
		return row, api.Msg{}, api.ErrFull
	}
	return slices.Concat(row, []api.Msg{row[c.i]}), api.Msg{}, api.OK
}

// differs tells what a bag has other than this row; nil, if nothing.
func differs(b *net.Bag, row []api.Msg) error {
	all := b.All()
	if b.Len() != len(row) || len(all) != len(row) {
		return fmt.Errorf("Len %d, %d of All, not %d", b.Len(), len(all), len(row))
	}
	for i, m := range row {
		if !wire.Same(all[i], m) {
			return fmt.Errorf("message %d: %+v, not %+v", i, all[i], m)
		}
	}
	return nil
}

func holds(t *testing.T, promise string, b *net.Bag, row []api.Msg) {
	t.Helper()
	if err := differs(b, row); err != nil {
		t.Fatalf("%s: %v", promise, err)
	}
}

// plays holds a turn against what it is on the row, and answers what is left of that.
func plays(t *testing.T, b *net.Bag, row []api.Msg, c turn) []api.Msg {
	t.Helper()
	m, e := c.on(b)
	left, wantM, want := c.onPlain(row)
	if e != want || !wire.Same(m, wantM) {
		t.Fatalf("P16.1: %v of %d: %+v, %v, not %+v, %v", c, len(row), m, e, wantM, want)
	}
	return left
}

// bagOf: a new bag into which all these were sent.
func bagOf(t *testing.T, row []api.Msg) *net.Bag {
	t.Helper()
	b := net.New()
	for i, m := range row {
		if e := b.Send(m); e != api.OK {
			t.Fatalf("P16.1: the Send of message %d: %v", i, e)
		}
	}
	return b
}

// shortTurns: those that rows of some turns are made of; what is sent tells when.
func shortTurns(k int) []turn {
	return []turn{
		{kind: toSend, m: ask(k)},
		{kind: toSend, m: ask(99)},
		{kind: toSend},
		{kind: toTake}, {kind: toTake, i: 1}, {kind: toTake, i: -1},
		{kind: toDrop}, {kind: toDrop, i: 2}, {kind: toDrop, i: 1},
		{kind: toDouble}, {kind: toDouble, i: 1}, {kind: toDouble, i: 2},
	}
}

// TestAllShortRows: each row of four turns, and with it all shorter ones, on an empty bag and on bags of a few.
func TestAllShortRows(t *testing.T) {
	const length = 4
	for _, has := range []int{0, 1, 3} {
		start := asks(200, has)
		var grow func(turns []turn)
		grow = func(turns []turn) {
			b, row := bagOf(t, start), start
			for _, c := range turns {
				row = plays(t, b, row, c)
			}
			if err := differs(b, row); err != nil {
				t.Fatalf("P16.2: behind %v on %d: %v", turns, has, err)
			}
			if len(turns) == length {
				return
			}
			for _, c := range shortTurns(len(turns)) {
				grow(append(slices.Clip(turns), c))
			}
		}
		grow(nil)
	}
}

// TestShortRowsOfFullBags: each row of two turns about the limit, of the first, the middle and the last message.
func TestShortRowsOfFullBags(t *testing.T) {
	for _, has := range []int{api.MaxBag - 2, api.MaxBag - 1, api.MaxBag} {
		start := asks(0, has)
		turns := []turn{{kind: toSend, m: ask(450)}, {kind: toSend}}
		for _, i := range []int{-1, 0, has / 2, has - 1, has, api.MaxBag} {
			turns = append(turns, turn{kind: toTake, i: i}, turn{kind: toDrop, i: i}, turn{kind: toDouble, i: i})
		}
		for _, one := range turns {
			for _, other := range turns {
				b, row := bagOf(t, start), start
				row = plays(t, b, row, one)
				row = plays(t, b, row, other)
				holds(t, "P16.2", b, row)
			}
		}
	}
}

// anyTurn: any message of these, a right one more often than none; any place, there or just not there.
func anyTurn(r *rand.Rand, right, wrong []api.Msg, length int) turn {
	switch n := r.IntN(20); {
	case n < 7:
		return turn{kind: toSend, m: right[r.IntN(len(right))]}
	case n < 8:
		return turn{kind: toSend, m: wrong[r.IntN(len(wrong))]}
	default:
		return turn{kind: toTake + n%3, i: r.IntN(length+3) - 1}
	}
}

func TestLongRows(t *testing.T) {
	right, wrong := messages(), bent()
	for seed := range uint64(100) {
		r := rand.New(rand.NewPCG(seed, 16))
		b, row := net.New(), []api.Msg(nil)
		for range 150 {
			row = plays(t, b, row, anyTurn(r, right, wrong, len(row)))
			holds(t, "P16.2", b, row)
		}
	}
}

// TestLongRowsOfFullBags: they are full now and then, and come down from there.
func TestLongRowsOfFullBags(t *testing.T) {
	wrong, met := bent(), 0
	for seed := range uint64(5) {
		r := rand.New(rand.NewPCG(seed, 161))
		row := asks(0, api.MaxBag-3)
		b := bagOf(t, row)
		for range 300 {
			c := anyTurn(r, asks(0, 480), wrong, len(row))
			if len(row) < api.MaxBag-6 {
				c = turn{kind: toDouble, i: r.IntN(len(row))}
			}
			if len(row) == api.MaxBag {
				met++
			}
			row = plays(t, b, row, c)
			holds(t, "P16.2", b, row)
		}
	}
	if met < 50 {
		t.Errorf("full %d times", met)
	}
}

// TestStays: one that nobody takes is there behind a thousand others that come and go on either side of it.
func TestStays(t *testing.T) {
	r := rand.New(rand.NewPCG(16, 2))
	left := greatest()[api.MPush-1]
	b := bagOf(t, []api.Msg{ask(0), left, ask(1)})
	at := 1
	for n := range 1000 {
		for b.Len() < 6 {
			if e := b.Send(ask(n)); e != api.OK {
				t.Fatal(e)
			}
		}
		i := r.IntN(b.Len())
		if i == at {
			continue
		}
		c := turn{kind: toTake + r.IntN(2), i: i}
		if _, e := c.on(b); e != api.OK {
			t.Fatalf("P16.1: %v: %v", c, e)
		}
		if i < at {
			at--
		}
		if !wire.Same(b.All()[at], left) {
			t.Fatalf("P16.2: behind %v it isn't message %d any more", c, at)
		}
	}
	if m, e := b.Take(at); e != api.OK || !wire.Same(m, left) {
		t.Errorf("P16.2: %+v, %v", m, e)
	}
}

// TestTheSameIsToldAlike: whichever other bag is at work, and whatever lay in a bag before.
func TestTheSameIsToldAlike(t *testing.T) {
	right, wrong := messages(), bent()
	for seed := range uint64(30) {
		r := rand.New(rand.NewPCG(seed, 162))
		one, other, beside := net.New(), net.New(), net.New()
		for _, m := range asks(0, 20) {
			other.Send(m)
		}
		for other.Len() > 0 {
			other.Drop(0)
		}
		for range 60 {
			c := anyTurn(r, right, wrong, one.Len())
			m, e := c.on(one)
			anyTurn(r, right, wrong, beside.Len()).on(beside)
			if n, f := c.on(other); e != f || !wire.Same(m, n) {
				t.Fatalf("rule 6: %v: %+v, %v, then %+v, %v", c, m, e, n, f)
			}
			holds(t, "rule 6", other, one.All())
		}
	}
}
