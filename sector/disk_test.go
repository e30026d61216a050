package sector_test

import (
	"math"
	"strings"
	"testing"

	"paddock/api"
	"paddock/sector"
)

const size = 64

// noughts: a sector that nobody wrote.
var noughts = strings.Repeat("\x00", size)

// full: a sector of one letter.
func full(letter string) string { return strings.Repeat(letter, size) }

// over: a sector with b laid over its beginning.
func over(b, sector string) string { return b + sector[len(b):] }

func write(t *testing.T, d *sector.Disk, i int, b string) {
	t.Helper()
	if e := d.Write(i, []byte(b)); e != api.OK {
		t.Fatalf("P13.1: Write(%d, %d bytes): %v", i, len(b), e)
	}
}

func flush(t *testing.T, d *sector.Disk) {
	t.Helper()
	if e := d.Flush(); e != api.OK {
		t.Fatalf("P13.1: Flush: %v", e)
	}
}

// kept: a disk on which these sectors were written and flushed.
func kept(t *testing.T, l ...string) *sector.Disk {
	t.Helper()
	d := sector.New(len(l))
	for i, s := range l {
		write(t, d, i, s)
	}
	flush(t, d)
	return d
}

// sectors: all of a disk whose power is on.
func sectors(t *testing.T, d *sector.Disk) []string {
	t.Helper()
	l := make([]string, d.Len())
	for i := range l {
		b, e := d.Read(i)
		if len(b) != size || e != api.OK {
			t.Fatalf("P13.1: Read(%d): %d bytes, %v", i, len(b), e)
		}
		l[i] = string(b)
	}
	return l
}

func holds(t *testing.T, promise string, d *sector.Disk, want ...string) {
	t.Helper()
	got := sectors(t, d)
	if len(got) != len(want) {
		t.Fatalf("%s: %d sectors, not %d", promise, len(got), len(want))
	}
	for i := range want {
		if got[i] != want[i] {
			t.Errorf("%s: sector %d is %q, not %q", promise, i, got[i], want[i])
		}
	}
}

// isOff: all three calls, each as it may come first; sectors that aren't there, and too many bytes, are not spoken of then.
func isOff(t *testing.T, d *sector.Disk) {
	t.Helper()
	for _, i := range []int{0, d.Len() - 1, d.Len(), -1, math.MinInt, math.MaxInt} {
		if b, e := d.Read(i); len(b) > 0 || e != api.ErrPower {
			t.Errorf("P13.1: off: Read(%d): %q, %v", i, b, e)
		}
		for _, n := range []int{0, 1, size, size + 1} {
			if e := d.Write(i, make([]byte, n)); e != api.ErrPower {
				t.Errorf("P13.1: off: Write(%d, %d bytes): %v", i, n, e)
			}
		}
		if e := d.Flush(); e != api.ErrPower {
			t.Errorf("P13.1: off: Flush: %v", e)
		}
	}
}

func TestNew(t *testing.T) {
	for _, c := range []struct{ sectors, want int }{
		{math.MinInt, 0}, {-1000, 0}, {-1, 0}, {0, 0}, {1, 1}, {2, 2}, {63, 63}, {999, 999}, {1000, 1000}, {1001, 1000}, {1 << 31, 1000}, {math.MaxInt, 1000},
	} {
		d := sector.New(c.sectors)
		if d == nil || d.Len() != c.want || d.Steps() != 0 {
			t.Fatalf("P13.1: New(%d): %v", c.sectors, d)
		}
		for i, s := range sectors(t, d) {
			if s != noughts {
				t.Errorf("P13.1: New(%d): sector %d: %q", c.sectors, i, s)
			}
		}
		if d.Len() != c.want || d.Steps() != 0 {
			t.Errorf("P13.1: New(%d): Read is no step, and no sector comes by it: %d, %d", c.sectors, d.Len(), d.Steps())
		}
	}
}

// TestLenStays: whatever is done.
func TestLenStays(t *testing.T) {
	for _, n := range []int{0, 1, 3, 1000} {
		d := sector.New(n)
		for _, do := range []func(){
			func() { d.Write(0, []byte("a")) },
			func() { d.Write(n-1, []byte("a")) },
			func() { d.Write(n, []byte("a")) },
			func() { d.Flush() },
			func() { d.Write(0, []byte("b")) },
			func() { d.Power(1) },
			func() { d.Flush() },
			func() { d.Crash([]uint8{9}) },
		} {
			do()
			if d.Len() != n {
				t.Fatalf("P13.1: of %d sectors became %d", n, d.Len())
			}
		}
	}
}

// TestADiskWithoutSectors: there is nothing to write, but steps and the power are there.
func TestADiskWithoutSectors(t *testing.T) {
	for _, n := range []int{0, -5} {
		d := sector.New(n)
		for _, i := range []int{0, -1, 1} {
			if e := d.Write(i, nil); e != api.ErrDisk {
				t.Errorf("P13.1: Write(%d): %v", i, e)
			}
			if b, e := d.Read(i); len(b) > 0 || e != api.ErrDisk {
				t.Errorf("P13.1: Read(%d): %q, %v", i, b, e)
			}
		}
		flush(t, d)
		if d.Steps() != 4 {
			t.Errorf("P13.1: %d steps, not 4", d.Steps())
		}
		d.Power(1)
		if e := d.Flush(); e != api.ErrPower {
			t.Errorf("P13.1: Flush: %v", e)
		}
		isOff(t, d)
		d.Crash([]uint8{255, 1})
		flush(t, d)
	}
}

// TestDisksAreApart: what one is told is not to be seen on another one.
func TestDisksAreApart(t *testing.T) {
	one, other := sector.New(2), sector.New(2)
	write(t, one, 0, full("a"))
	flush(t, one)
	write(t, one, 1, full("b"))
	one.Power(1)
	one.Flush()
	holds(t, "rule 6", other, noughts, noughts)
	if other.Steps() != 0 || other.Flush() != api.OK {
		t.Error("rule 6: steps, or the power, of another disk")
	}
	one.Crash([]uint8{255})
	holds(t, "P13.2", one, full("a"), full("b"))
	holds(t, "rule 6", other, noughts, noughts)
}
