package bits_test

import (
	"testing"

	"paddock/bits"
)

// spoil writes over a list and all the room behind it, as whoever was given it may.
func spoil(b []byte) {
	b = b[:cap(b)]
	for i := range b {
		b[i] = 0xee
	}
}

// answers: each call that answers a list, on bytes that all of them can read.
func answers() map[string]func(b []byte) []byte {
	return map[string]func(b []byte) []byte{
		"Put":             func(b []byte) []byte { return bits.Put(b, 0x2122, 2) },
		"Put nothing":     func(b []byte) []byte { return bits.Put(b, 1, 0) },
		"Text":            func(b []byte) []byte { return bits.Text(b, "st") },
		"Get":             func(b []byte) []byte { _, rest, _ := bits.Get(b, 1); return rest },
		"Get nothing":     func(b []byte) []byte { _, rest, _ := bits.Get(b, 0); return rest },
		"Get, short":      func(b []byte) []byte { _, rest, _ := bits.Get(b, 8); return rest },
		"GetText":         func(b []byte) []byte { _, rest, _ := bits.GetText(b, 9); return rest },
		"GetText, long":   func(b []byte) []byte { _, rest, _ := bits.GetText(b, 0); return rest },
		"GetText, short":  func(b []byte) []byte { _, rest, _ := bits.GetText(b[:2], 9); return rest },
		"GetText, a part": func(b []byte) []byte { _, rest, _ := bits.GetText(b[:1], 9); return rest },
	}
}

const held, room = "\x00\x01ab", "room behind"

func TestWhatIsHandedInStays(t *testing.T) {
	for name, call := range answers() {
		whole := []byte(held + room)
		spoil(call(whole[:len(held)]))
		if string(whole) != held+room {
			t.Errorf("rule 3: %s: what was handed in became %q", name, whole)
		}
	}
}

func TestAnswersAreNewMemory(t *testing.T) {
	for name, call := range answers() {
		whole := []byte(held + room)
		first := call(whole[:len(held)])
		want := string(first)
		spoil(call(whole[:len(held)]))
		spoil(whole)
		if string(first) != want {
			t.Errorf("rule 3: %s: the answer %q became %q", name, want, first)
		}
	}
}

func TestTextOutlivesItsBytes(t *testing.T) {
	b := []byte(held)
	s, _, _ := bits.GetText(b, 9)
	if spoil(b); s != "a" {
		t.Errorf("rule 3: GetText's text became %q", s)
	}
}
