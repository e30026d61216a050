package net_test

import (
	"math"
	"testing"

	"paddock/api"
	"paddock/net"
	"paddock/wire"
)

// scenes: an empty bag, one with a few messages, one with a last place, a full one.
func scenes() [][]api.Msg {
	return [][]api.Msg{nil, messages(), asks(0, api.MaxBag-1), asks(0, api.MaxBag)}
}

// TestNoMessage: ErrForm, into an empty bag and into a full one; nothing comes in.
func TestNoMessage(t *testing.T) {
	wrong := bent()
	counted := 0
	for _, row := range scenes() {
		b := bagOf(t, row)
		for _, m := range wrong {
			if wire.Is(m) {
				continue
			}
			counted++
			if e := b.Send(m); e != api.ErrForm || b.Len() != len(row) {
				t.Fatalf("P16.1: into a bag of %d: %v: %+v", len(row), e, m)
			}
		}
		holds(t, "rule 4", b, row)
	}
	if counted < 4000 {
		t.Errorf("%d of them", counted)
	}
}

// TestSendGoesByIs: what was bent and is a message still goes in.
func TestSendGoesByIs(t *testing.T) {
	right := 0
	for _, m := range bent() {
		b := net.New()
		row := plays(t, b, nil, turn{kind: toSend, m: m})
		holds(t, "P16.1", b, row)
		right += len(row)
	}
	if right < 100 {
		t.Errorf("%d of them are right", right)
	}
}

func TestSendIntoAFullBag(t *testing.T) {
	row := asks(0, api.MaxBag)
	b := bagOf(t, row)
	for _, m := range messages() {
		if e := b.Send(m); e != api.ErrFull {
			t.Errorf("P16.1: %v: %+v", e, m)
		}
	}
	holds(t, "rule 4", b, row)
}

// TestNoSuchPlace: ErrNone, at Double also ahead of ErrFull; nothing is told beside it, nothing changes.
func TestNoSuchPlace(t *testing.T) {
	for _, row := range scenes() {
		b, length := bagOf(t, row), len(row)
		for _, i := range []int{-1, -2, -length, -length - 1, length, length + 1, 2 * length, api.MaxBag, api.MaxBag + 1, math.MinInt, math.MinInt + 1, math.MaxInt, math.MaxInt - 1, math.MinInt32, math.MaxInt32, 1 << 32, 1<<32 + 1, -1 << 32} {
			if i >= 0 && i < length {
				continue
			}
			if m, e := b.Take(i); e != api.ErrNone || !wire.Same(m, api.Msg{}) {
				t.Errorf("P16.1: Take(%d) of %d: %+v, %v", i, length, m, e)
			}
			if e, f := b.Drop(i), b.Double(i); e != api.ErrNone || f != api.ErrNone {
				t.Errorf("P16.1: Drop and Double of %d of %d: %v, %v", i, length, e, f)
			}
			if b.Len() != length {
				t.Fatalf("rule 4: %d: %d, not %d", i, b.Len(), length)
			}
		}
		holds(t, "rule 4", b, row)
	}
}

// TestGoneOnce: of one that was taken or dropped there is no second time.
func TestGoneOnce(t *testing.T) {
	for _, kind := range []int{toTake, toDrop} {
		b := bagOf(t, asks(0, 1))
		row := plays(t, b, asks(0, 1), turn{kind: kind})
		for _, again := range []int{toTake, toDrop, toDouble} {
			plays(t, b, row, turn{kind: again})
			holds(t, "P16.1", b, nil)
		}
	}
}
