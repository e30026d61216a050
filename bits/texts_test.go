package bits_test

import (
	"math"
	"strings"
	"testing"

	"paddock/api"
	"paddock/bits"
)

func TestText(t *testing.T) {
	longest := strings.Repeat("x", 65534) + "y"
	for _, c := range []struct{ name, b, s, want string }{
		{"nothing", "", "", "\x00\x00"},
		{"behind nothing", "", "abc", "\x00\x03abc"},
		{"behind something", "ab", "c", "ab\x00\x01c"},
		{"bytes that are no runes", "", "\xff\x00\xfe", "\x00\x03\xff\x00\xfe"},
		{"255", "", longest[:255], "\x00\xff" + longest[:255]},
		{"256", "", longest[:256], "\x01\x00" + longest[:256]},
		{"65534", "", longest[1:], "\xff\xfe" + longest[1:]},
		{"65535", "", longest, "\xff\xff" + longest},
		{"65536", "", longest + "z", "\xff\xff" + longest},
		{"more", "b", longest + longest, "b\xff\xff" + longest},
	} {
		if got := bits.Text([]byte(c.b), c.s); string(got) != c.want {
			t.Errorf("P1.2: Text, %s: %d bytes, not %d", c.name, len(got), len(c.want))
		}
	}
	if got := bits.Text(nil, "a"); string(got) != "\x00\x01a" {
		t.Errorf("P1.2: Text behind nil: %q", got)
	}
}

func TestGetText(t *testing.T) {
	for _, c := range []struct {
		b    string
		most int
		s    string
		rest string
		want api.Errno
	}{
		{"\x00\x00", 0, "", "", api.OK},
		{"\x00\x00z", 0, "", "z", api.OK},
		{"\x00\x03abc", 3, "abc", "", api.OK},
		{"\x00\x03abcde", 4, "abc", "de", api.OK},
		{"\x00\x03abc", math.MaxInt, "abc", "", api.OK},
		{"\x00\x02\xff\x00", 2, "\xff\x00", "", api.OK},
		{"\x00\x03abc", 2, "", "\x00\x03abc", api.ErrLong},
		{"\x00\x01a", 0, "", "\x00\x01a", api.ErrLong},
		{"\x00\x00", -1, "", "\x00\x00", api.ErrLong},
		{"\x00\x00", math.MinInt, "", "\x00\x00", api.ErrLong},
		{"", 3, "", "", api.ErrShort},
		{"", -1, "", "", api.ErrShort},
		{"\x00", 3, "", "\x00", api.ErrShort},
		{"\xff", -1, "", "\xff", api.ErrShort},
		{"\x00\x03", 3, "", "\x00\x03", api.ErrShort},
		{"\x00\x03ab", 3, "", "\x00\x03ab", api.ErrShort},
		{"\xff\xffab", math.MaxInt, "", "\xff\xffab", api.ErrShort},
		{"\x00\x03ab", 2, "", "\x00\x03ab", api.ErrLong},
		{"\x00\x03", 2, "", "\x00\x03", api.ErrLong},
	} {
		s, rest, e := bits.GetText([]byte(c.b), c.most)
		if s != c.s || string(rest) != c.rest || e != c.want {
			t.Errorf("P1.2: GetText(%q, %d): %q, %q, %v; not %q, %q, %v", c.b, c.most, s, rest, e, c.s, c.rest, c.want)
		}
	}
	if s, rest, e := bits.GetText(nil, 3); s != "" || len(rest) != 0 || e != api.ErrShort {
		t.Errorf("P1.2: GetText of nil: %q, %q, %v", s, rest, e)
	}
}

func TestGetTextStopsAtTheEndNotAtTheRoom(t *testing.T) {
	whole := []byte("\x00\x02ab")
	for end := range 4 {
		if s, rest, e := bits.GetText(whole[:end], 2); s != "" || len(rest) != end || e != api.ErrShort {
			t.Errorf("P1.2: GetText read the room behind %d bytes: %q, %q, %v", end, s, rest, e)
		}
	}
}

func TestPutTextIsGot(t *testing.T) {
	for _, length := range []int{0, 1, 2, 255, 256, 257, 65534, 65535} {
		s := strings.Repeat("\xe9\x00a", length)[:length]
		b := append(bits.Text(nil, s), "rest"...)
		if got, rest, e := bits.GetText(b, length); got != s || string(rest) != "rest" || e != api.OK {
			t.Errorf("P1.3: a text of %d bytes, at most as many: %d, %q, %v", length, len(got), rest, e)
		}
		if got, rest, e := bits.GetText(b, length-1); got != "" || string(rest) != string(b) || e != api.ErrLong {
			t.Errorf("P1.2: a text of %d bytes, one fewer at most: %d, %d, %v", length, len(got), len(rest), e)
		}
	}
	cut := strings.Repeat("k", 65535)
	if got, rest, e := bits.GetText(bits.Text(nil, cut+"over"), 65535); got != cut || len(rest) != 0 || e != api.OK {
		t.Errorf("P1.3: of a text that is cut: %d, %q, %v", len(got), rest, e)
	}
}

func TestPutInARowIsGotInARow(t *testing.T) {
	b := bits.Put(nil, 7, 1)
	b = bits.Text(b, "one")
	b = bits.Put(b, 1<<40, 8)
	b = bits.Text(b, "")
	b = bits.Put(b, 65535, 2)

	a, b, e1 := bits.Get(b, 1)
	one, b, e2 := bits.GetText(b, 3)
	long, b, e3 := bits.Get(b, 8)
	none, b, e4 := bits.GetText(b, 0)
	last, b, e5 := bits.Get(b, 2)
	if e1 != api.OK || e2 != api.OK || e3 != api.OK || e4 != api.OK || e5 != api.OK || len(b) != 0 {
		t.Fatalf("P1.3: %v, %v, %v, %v, %v, left %q", e1, e2, e3, e4, e5, b)
	}
	if a != 7 || one != "one" || long != 1<<40 || none != "" || last != 65535 {
		t.Errorf("P1.3: %d, %q, %d, %q, %d", a, one, long, none, last)
	}
}

func FuzzReading(f *testing.F) {
	f.Add([]byte(nil), 0)
	f.Add([]byte("\x00"), -1)
	f.Add([]byte("\x00\x03abcd"), 3)
	f.Add([]byte("\xff\xffabcd"), math.MaxInt)
	f.Fuzz(func(t *testing.T, b []byte, n int) {
		s, rest, e := bits.GetText(b, n)
		if e == api.OK && string(bits.Text(nil, s))+string(rest) != string(b) {
			t.Errorf("P1.3: GetText(%q, %d): %q, %q", b, n, s, rest)
		}
		if e != api.OK && (s != "" || string(rest) != string(b)) {
			t.Errorf("P1.2: GetText(%q, %d): %q, %q beside %v", b, n, s, rest, e)
		}
		number, rest, e := bits.Get(b, n)
		if e == api.OK && string(bits.Put(nil, number, n))+string(rest) != string(b) {
			t.Errorf("P1.3: Get(%q, %d): %#x, %q", b, n, number, rest)
		}
		if e != api.OK && (number != 0 || string(rest) != string(b)) {
			t.Errorf("P1.2: Get(%q, %d): %#x, %q beside %v", b, n, number, rest, e)
		}
	})
}
