package bits_test

import (
	"math"
	"testing"

	"paddock/api"
	"paddock/bits"
)

const big = 0x0102030405060708

func TestPut(t *testing.T) {
	for _, c := range []struct {
		b     string
		n     uint64
		bytes int
		want  string
	}{
		{"", big, 0, ""},
		{"", big, 1, "\x08"},
		{"", big, 2, "\x07\x08"},
		{"", big, 3, "\x06\x07\x08"},
		{"", big, 4, "\x05\x06\x07\x08"},
		{"", big, 5, "\x04\x05\x06\x07\x08"},
		{"", big, 6, "\x03\x04\x05\x06\x07\x08"},
		{"", big, 7, "\x02\x03\x04\x05\x06\x07\x08"},
		{"", big, 8, "\x01\x02\x03\x04\x05\x06\x07\x08"},
		{"", big, 9, "\x01\x02\x03\x04\x05\x06\x07\x08"},
		{"", big, math.MaxInt, "\x01\x02\x03\x04\x05\x06\x07\x08"},
		{"", big, -1, ""},
		{"", big, math.MinInt, ""},
		{"ab", 1, 2, "ab\x00\x01"},
		{"ab", 1, 0, "ab"},
		{"ab", 1, -5, "ab"},
		{"", 256, 1, "\x00"},
		{"", 0, 3, "\x00\x00\x00"},
		{"", math.MaxUint64, 8, "\xff\xff\xff\xff\xff\xff\xff\xff"},
	} {
		if got := bits.Put([]byte(c.b), c.n, c.bytes); string(got) != c.want {
			t.Errorf("P1.2: Put(%q, %#x, %d): %q, not %q", c.b, c.n, c.bytes, got, c.want)
		}
	}
	if got := bits.Put(nil, 5, 1); string(got) != "\x05" {
		t.Errorf("P1.2: Put behind nil: %q", got)
	}
}

func TestGet(t *testing.T) {
	const eight = "\x01\x02\x03\x04\x05\x06\x07\x08"
	for _, c := range []struct {
		b     string
		bytes int
		n     uint64
		rest  string
		want  api.Errno
	}{
		{"", 0, 0, "", api.OK},
		{"ab", 0, 0, "ab", api.OK},
		{"ab", -1, 0, "ab", api.OK},
		{"", math.MinInt, 0, "", api.OK},
		{"\x07", 1, 7, "", api.OK},
		{"\x01\x02z", 2, 0x102, "z", api.OK},
		{"\x00\x00\x05", 3, 5, "", api.OK},
		{eight, 8, big, "", api.OK},
		{eight + "yz", 8, big, "yz", api.OK},
		{eight + "yz", 9, big, "yz", api.OK},
		{eight, 9, big, "", api.OK},
		{eight, math.MaxInt, big, "", api.OK},
		{"\xff\xff\xff\xff\xff\xff\xff\xff", 8, math.MaxUint64, "", api.OK},
		{"", 1, 0, "", api.ErrShort},
		{"a", 2, 0, "a", api.ErrShort},
		{eight[:7], 8, 0, eight[:7], api.ErrShort},
		{eight[:7], 9, 0, eight[:7], api.ErrShort},
		{eight[:7], math.MaxInt, 0, eight[:7], api.ErrShort},
	} {
		n, rest, e := bits.Get([]byte(c.b), c.bytes)
		if n != c.n || string(rest) != c.rest || e != c.want {
			t.Errorf("P1.2: Get(%q, %d): %#x, %q, %v; not %#x, %q, %v", c.b, c.bytes, n, rest, e, c.n, c.rest, c.want)
		}
	}
	if n, rest, e := bits.Get(nil, 8); n != 0 || len(rest) != 0 || e != api.ErrShort {
		t.Errorf("P1.2: Get of nil: %d, %q, %v", n, rest, e)
	}
}

func TestGetStopsAtTheEndNotAtTheRoom(t *testing.T) {
	whole := []byte{1, 2, 3, 4}
	if n, rest, e := bits.Get(whole[:1], 2); n != 0 || string(rest) != "\x01" || e != api.ErrShort {
		t.Errorf("P1.2: Get read the room behind the bytes: %d, %q, %v", n, rest, e)
	}
}

func TestPutNumberIsGot(t *testing.T) {
	numbers := []uint64{0, 1, 127, 128, 255, 256, 65535, 65536, 1<<32 - 1, 1 << 32, big, 1 << 63, math.MaxUint64}
	for _, n := range numbers {
		for bytes := range 9 {
			want := n & (1<<(8*bytes) - 1)
			b := append(bits.Put(nil, n, bytes), "rest"...)
			got, rest, e := bits.Get(b, bytes)
			if got != want || string(rest) != "rest" || e != api.OK {
				t.Errorf("P1.3: %#x in %d bytes: %#x, %q, %v", n, bytes, got, rest, e)
			}
		}
	}
}
