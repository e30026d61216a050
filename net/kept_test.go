package net

import (
	"math"
	"testing"

	"paddock/api"
)

func send(t *testing.T, b *Bag, m api.Msg) {
	t.Helper()
	if e := b.Send(m); e != api.OK {
		t.Fatal(e)
	}
}

// TestWhatIsGoneIsNotKept: no bytes of it stay behind the end.
func TestWhatIsGoneIsNotKept(t *testing.T) {
	b := New()
	for epoch := range uint32(9) {
		send(t, b, api.Msg{Kind: api.MAsk, From: 10, Epoch: epoch + 1})
	}
	for _, gone := range []func(){
		func() { b.Take(0) },
		func() { b.Drop(0) },
		func() { b.Take(3) },
		func() { b.Drop(b.Len() - 1) },
		func() { b.Take(b.Len() - 1) },
	} {
		gone()
		for i, sheet := range b.sheets[len(b.sheets):cap(b.sheets)] {
			if sheet != nil {
				t.Errorf("place %d behind the end keeps %x", i, sheet)
			}
		}
	}
}

// TestEachHasBytesOfItsOwn: what would be written into one, were it ever, isn't written into another one; and no room is kept for more.
func TestEachHasBytesOfItsOwn(t *testing.T) {
	b := New()
	send(t, b, api.Msg{Kind: api.MHave, From: 10, To: 11, Epoch: 60, N: math.MaxUint32})
	for range 3 {
		if e := b.Double(0); e != api.OK {
			t.Fatal(e)
		}
	}
	for i, sheet := range b.sheets {
		if cap(sheet) != len(sheet) {
			t.Errorf("message %d: %d bytes in room for %d", i, len(sheet), cap(sheet))
		}
		for k, other := range b.sheets {
			if i != k && &sheet[0] == &other[0] {
				t.Errorf("messages %d and %d have the same bytes", i, k)
			}
		}
	}
}
