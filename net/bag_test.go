package net_test

import (
	"testing"

	"paddock/api"
	"paddock/net"
	"paddock/wire"
)

func TestANewOne(t *testing.T) {
	for range 2 {
		b := net.New()
		if b == nil {
			t.Fatal("P16.1: New is nil")
		}
		if l := b.All(); b.Len() != 0 || len(l) != 0 {
			t.Errorf("P16.1: a new bag: Len %d, All %+v", b.Len(), l)
		}
		b.Send(ask(0)) // nothing that the next new one has
	}
}

// TestOneThatNewDidNotGive is an empty one too.
func TestOneThatNewDidNotGive(t *testing.T) {
	var b net.Bag
	holds(t, "rule 1", &b, nil)
	if _, e := b.Take(0); e != api.ErrNone {
		t.Errorf("P16.1: %v", e)
	}
	if e := b.Send(ask(3)); e != api.OK {
		t.Errorf("P16.1: %v", e)
	}
	holds(t, "P16.1", &b, asks(3, 1))
}

func TestTheExample(t *testing.T) {
	m := ask(7)
	b := net.New()
	if e, f := b.Send(m), b.Double(0); e != api.OK || f != api.OK {
		t.Fatalf("P16.1: %v, %v", e, f)
	}
	holds(t, "P16.1", b, []api.Msg{m, m})
	if got, e := b.Take(0); e != api.OK || !wire.Same(got, m) {
		t.Errorf("P16.1: %+v, %v", got, e)
	}
	holds(t, "P16.1: one is left", b, []api.Msg{m})
}

// TestTheMessagesAre: what these tests hold to be the least and the greatest of each kind is one, and can be bytes: there is no message without an Encode.
func TestTheMessagesAre(t *testing.T) {
	for k := range kinds {
		if a, b := least()[k], greatest()[k]; int(a.Kind) != k+1 || int(b.Kind) != k+1 {
			t.Errorf("kinds %d and %d stand for %d", a.Kind, b.Kind, k+1)
		}
	}
	for _, m := range messages() {
		if _, e := wire.Encode(m); !wire.Is(m) || e != api.OK {
			t.Errorf("no message: %+v: %v", m, e)
		}
	}
}

// TestEachKind: alone, among others, doubled; by All and by Take.
func TestEachKind(t *testing.T) {
	for _, m := range messages() {
		b := net.New()
		row := plays(t, b, nil, turn{kind: toSend, m: m})
		holds(t, "P16.1: alone", b, row)
		row = plays(t, b, row, turn{kind: toSend, m: ask(1)})
		row = plays(t, b, row, turn{kind: toDouble})
		holds(t, "P16.1: doubled", b, []api.Msg{m, ask(1), m})
		row = plays(t, b, row, turn{kind: toTake})
		row = plays(t, b, row, turn{kind: toTake, i: 1})
		holds(t, "P16.1: taken", b, []api.Msg{ask(1)})
		plays(t, b, row, turn{kind: toTake})
		holds(t, "P16.1: taken", b, nil)
	}
}

func TestAllKindsInOrder(t *testing.T) {
	l := messages()
	b := bagOf(t, l)
	holds(t, "P16.1", b, l)
	for i, m := range l {
		if got, e := b.Take(0); e != api.OK || !wire.Same(got, m) {
			t.Errorf("P16.1: take %d: %+v, %v, not %+v", i, got, e, m)
		}
		holds(t, "P16.2", b, l[i+1:])
	}
	b = bagOf(t, l)
	for i := len(l) - 1; i >= 0; i-- {
		if got, e := b.Take(i); e != api.OK || !wire.Same(got, l[i]) {
			t.Errorf("P16.1: take %d: %+v, %v, not %+v", i, got, e, l[i])
		}
		holds(t, "P16.2", b, l[:i])
	}
}

// TestPlaces: the first, the last, one in the middle, of bags of some lengths.
func TestPlaces(t *testing.T) {
	for _, length := range []int{1, 2, 3, 4, 7, api.MaxBag - 1} {
		l := asks(0, length)
		for _, i := range []int{0, length / 2, length - 1} {
			for _, kind := range []int{toTake, toDrop} {
				b := bagOf(t, l)
				plays(t, b, l, turn{kind: kind, i: i})
				holds(t, "P16.1: the first ones", b, append(asks(0, i), asks(i+1, length-i-1)...))
			}
			b := bagOf(t, l)
			plays(t, b, l, turn{kind: toDouble, i: i})
			holds(t, "P16.1: doubled", b, append(asks(0, length), ask(i)))
		}
	}
}

// TestTwoThatAreTheSame: one of them is gone, the other one stays where it is.
func TestTwoThatAreTheSame(t *testing.T) {
	m := greatest()[api.MInfo-1]
	for _, kind := range []int{toTake, toDrop} {
		for _, c := range []struct {
			i    int
			want []api.Msg
		}{
			{1, []api.Msg{ask(0), ask(1), m, ask(2)}},
			{3, []api.Msg{ask(0), m, ask(1), ask(2)}},
		} {
			l := []api.Msg{ask(0), m, ask(1), m, ask(2)}
			b := bagOf(t, l)
			plays(t, b, l, turn{kind: kind, i: c.i})
			holds(t, "P16.2: the other one", b, c.want)
		}
	}
	b := bagOf(t, []api.Msg{m, m})
	for left := 1; left >= 0; left-- {
		if got, e := b.Take(0); e != api.OK || !wire.Same(got, m) || b.Len() != left {
			t.Errorf("P16.2: %+v, %v, %d are left", got, e, b.Len())
		}
	}
}

// TestTheLastFreePlace: by Send and by Double; then there is none, until one is taken or dropped.
func TestTheLastFreePlace(t *testing.T) {
	for _, last := range []turn{{kind: toSend, m: ask(450)}, {kind: toDouble, i: 7}, {kind: toDouble, i: api.MaxBag - 2}} {
		for _, less := range []turn{{kind: toTake}, {kind: toDrop}, {kind: toTake, i: 200}, {kind: toDrop, i: 200}, {kind: toTake, i: api.MaxBag - 1}, {kind: toDrop, i: api.MaxBag - 1}} {
			row := asks(0, api.MaxBag-1)
			b := bagOf(t, row)
			row = plays(t, b, row, last)
			if b.Len() != api.MaxBag {
				t.Fatalf("P16.1: the last free place stays free: %d", b.Len())
			}
			for range 2 {
				if e, f := b.Send(ask(451)), b.Double(0); e != api.ErrFull || f != api.ErrFull {
					t.Fatalf("P16.1: into a full bag: %v, %v", e, f)
				}
				holds(t, "rule 4", b, row)
			}
			row = plays(t, b, row, less)
			row = plays(t, b, row, last)
			if e := b.Send(ask(452)); e != api.ErrFull || b.Len() != api.MaxBag {
				t.Fatalf("P16.1: full again: %v, %d", e, b.Len())
			}
			holds(t, "P16.2", b, row)
		}
	}
}

// TestFullOfTheGreatest: the limit counts messages, not bytes.
func TestFullOfTheGreatest(t *testing.T) {
	m := greatest()[api.MPush-1]
	b := bagOf(t, []api.Msg{m})
	row := []api.Msg{m}
	for range api.MaxBag - 1 {
		row = plays(t, b, row, turn{kind: toDouble, i: len(row) - 1})
	}
	holds(t, "P16.1", b, row)
	plays(t, b, row, turn{kind: toSend, m: m})
	holds(t, "rule 4", b, row)
}

// TestFilledAndEmptied: again and again; no place gets lost.
func TestFilledAndEmptied(t *testing.T) {
	b := net.New()
	for n := range 3 {
		for i := range api.MaxBag {
			if e := b.Send(ask(n + i)); e != api.OK {
				t.Fatalf("P16.1: fill %d, message %d: %v", n, i, e)
			}
		}
		holds(t, "P16.1", b, asks(n, api.MaxBag))
		for i := range api.MaxBag {
			at := (i * n) % b.Len()
			if e := b.Drop(at); e != api.OK {
				t.Fatalf("P16.1: %v", e)
			}
		}
		holds(t, "P16.1", b, nil)
	}
}
