package journal

import (
	"math"
	"slices"
	"testing"

	"paddock/api"
	"paddock/sector"
)

// tear: the first bytes of a sector are new, the others old.
func tear(new, old []byte, at int) []byte {
	b := slices.Clone(old)
	copy(b, new[:min(at, len(new))])
	return b
}

// sectorOf: a sector that was noughts, with a header written on it.
func sectorOf(h header) []byte {
	b := make([]byte, sectorBytes)
	copy(b, h.sheet())
	return b
}

func TestHeadersComeBack(t *testing.T) {
	for _, h := range []header{
		{}, {number: 1}, {number: 2, half: 1}, {number: math.MaxUint64, half: 1, bytes: 31744, sum: math.MaxUint64}, {number: 1 << 56, bytes: 1, sum: 1},
	} {
		if len(h.sheet()) > sectorBytes {
			t.Fatalf("a header has %d bytes", len(h.sheet()))
		}
		if got, is := headerOf(sectorOf(h)); !is || got != h {
			t.Errorf("%v came back as %v, %v", h, got, is)
		}
	}
	if _, is := headerOf(make([]byte, sectorBytes)); is {
		t.Error("noughts are a header")
	}
}

// TestEachByteOfAHeaderCounts: one byte that is another makes it none, or another header.
func TestEachByteOfAHeaderCounts(t *testing.T) {
	h := header{number: 0x0102030405060708, half: 1, bytes: 700, sum: 99}
	for i := range h.sheet() {
		b := sectorOf(h)
		b[i] ^= 1
		if got, is := headerOf(b); is && got == h {
			t.Errorf("byte %d counts for nothing", i)
		}
	}
}

// TestTornHeaders: over the header two numbers before, whatever both tell of, a torn one is the old one, the new one, or none. Sums are not what tells it: all are made alike here, and unlike.
func TestTornHeaders(t *testing.T) {
	for _, number := range []uint64{2, 3, 255, 256, 257, 65535, 65536, 1<<32 - 1, 1 << 32, 1<<56 + 1, math.MaxUint64, 0, 1} {
		for _, old := range []header{{number: number - 2}, {number: number - 2, half: 1, bytes: 300, sum: 7}} {
			for _, new := range []header{{number: number}, {number: number, half: 1, bytes: 300, sum: 7}, {number: number, bytes: 44, sum: math.MaxUint64}} {
				for at := range sectorBytes + 1 {
					got, is := headerOf(tear(new.sheet(), sectorOf(old), at))
					if is && got != old && got != new {
						t.Fatalf("of %v over %v, torn at %d, came %v", new, old, at, got)
					}
				}
			}
		}
	}
}

// TestTornTwice: a torn header, and over it another one of the same number, torn too.
func TestTornTwice(t *testing.T) {
	for _, number := range []uint64{3, 256, 257, 65536, 1 << 40, 0, 1} {
		old := header{number: number - 2, half: 1, bytes: 100, sum: 5}
		first := header{number: number, bytes: 70, sum: 1 << 40}
		second := header{number: number, half: 1, bytes: 164, sum: 9}
		for at := range sectorBytes + 1 {
			left := tear(first.sheet(), sectorOf(old), at)
			if got, is := headerOf(left); is && got == first {
				break // it counts: the next one goes to the other slot
			}
			for then := range sectorBytes + 1 {
				got, is := headerOf(tear(second.sheet(), left, then))
				if is && got != old && got != second {
					t.Fatalf("torn at %d and %d: %v", at, then, got)
				}
			}
		}
	}
}

// laid: a disk with these headers in their slots.
func laid(t *testing.T, sectors int, l ...header) *sector.Disk {
	t.Helper()
	d := sector.New(sectors)
	for _, h := range l {
		if e := d.Write(h.slot(), h.sheet()); e != api.OK {
			t.Fatal(e)
		}
	}
	d.Flush()
	return d
}

// TestNumbersGoRound: behind the greatest number comes 0; Format, Append and Replace go on over it.
func TestNumbersGoRound(t *testing.T) {
	for back := range uint64(6) {
		d := laid(t, 40, header{number: 0 - back})
		var want []string
		for i := range 8 {
			j, l, e := Open(d)
			if e != api.OK || !slices.Equal(l, want) {
				t.Fatalf("%d calls from the number 0 - %d on: %q, %v", i, back, l, e)
			}
			if i == 5 {
				e = j.Replace([]string{"new"})
				want = []string{"new"}
			} else {
				e = j.Append("a")
				want = append(want, "a")
			}
			if e != api.OK {
				t.Fatal(e)
			}
		}
		if _, e := Format(d); e != api.OK {
			t.Fatal(e)
		}
		if _, l, e := Open(d); e != api.OK || len(l) > 0 {
			t.Fatalf("%q, %v", l, e)
		}
	}
}

// TestHeadersThatTellWhatIsNotThere: a header in its form, of bytes that are no records, is no journal; Format goes over it.
func TestHeadersThatTellWhatIsNotThere(t *testing.T) {
	right := header{}.with("ab")
	for name, h := range map[string]header{
		"a third half":            {number: 1, half: 2},
		"the last half":           {number: 1, half: 255},
		"more than a half has":    {number: 1, bytes: 64*16 + 1},
		"more than the disk has":  {number: 1, bytes: 1 << 20},
		"as many as can be told":  {number: 1, bytes: 1<<32 - 1},
		"one byte":                {number: 1, bytes: 1},
		"another sum of none":     {number: 1, sum: 1},
		"empty ones, another sum": {number: 1, bytes: 6, sum: 6},
		"a record that isn't":     {number: 1, bytes: right.bytes, sum: right.sum},
		"one of the other half":   {number: 1, half: 1, bytes: right.bytes, sum: right.sum},
	} {
		for _, sectors := range []int{8, 9, 40, 41} {
			d := laid(t, sectors, h)
			if j, l, e := Open(d); j != nil || len(l) > 0 || e != api.ErrForm {
				t.Errorf("%s, %d sectors: %v, %q, %v", name, sectors, j, l, e)
			}
			if j, e := Format(d); j == nil || e != api.OK {
				t.Errorf("%s, %d sectors: Format: %v", name, sectors, e)
			}
			if j, l, e := Open(d); j == nil || len(l) > 0 || e != api.OK {
				t.Errorf("%s, %d sectors: behind Format: %q, %v", name, sectors, l, e)
			}
		}
	}
	d := sector.New(40)
	d.Write(0, header{number: 1}.sheet())
	d.Write(1, header{number: 2}.sheet())
	if j, _, e := Open(d); j != nil || e != api.ErrForm {
		t.Errorf("headers in each other's slots: %v", e)
	}
}

// TestOnlyNumbersAreCaught: a fault of the package isn't told as an error.
func TestOnlyNumbersAreCaught(t *testing.T) {
	if e := caught(func() { panic(api.ErrRoom) }); e != api.ErrRoom {
		t.Error(e)
	}
	if e := caught(func() {}); e != api.OK {
		t.Error(e)
	}
	defer func() {
		if recover() == nil {
			t.Error("a fault was hidden")
		}
	}()
	caught(func() { panic("a fault") })
}
