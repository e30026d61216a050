package sector_test

import (
	"math"
	"slices"
	"testing"

	"paddock/api"
	"paddock/sector"
)

// TestWriteLengths: the sector begins with what is written, the rest of it stays.
func TestWriteLengths(t *testing.T) {
	for n := range size + 1 {
		d := kept(t, full("a"), full("b"), full("c"))
		b := full("w")[:n]
		write(t, d, 1, b)
		holds(t, "P13.1", d, full("a"), over(b, full("b")), full("c"))
		flush(t, d)
		holds(t, "P13.1", d, full("a"), over(b, full("b")), full("c"))
		d.Crash(nil)
		holds(t, "P13.3", d, full("a"), over(b, full("b")), full("c"))
	}
}

// TestWritesUponOneAnother: the rest that stays is the one that was last written, flushed or not.
func TestWritesUponOneAnother(t *testing.T) {
	for _, flushed := range []bool{false, true} {
		d := sector.New(1)
		want := noughts
		for _, b := range []string{"abcdef", "xy", "", full("k"), full("l")[:63], "\x00", full("m"), "\xff\xfe\x00\x80"} {
			write(t, d, 0, b)
			want = over(b, want)
			holds(t, "P13.1", d, want)
			if flushed {
				flush(t, d)
				holds(t, "P13.1", d, want)
			}
		}
	}
}

// TestEachByteIsKeptAsItIs: all 256 of them, at unlike places.
func TestEachByteIsKeptAsItIs(t *testing.T) {
	d := sector.New(8)
	want := make([]string, 8)
	for i := range want {
		b := make([]byte, size)
		for k := range b {
			b[k] = byte(i*37 + k)
		}
		want[i] = string(b)
		write(t, d, i, want[i])
	}
	holds(t, "P13.1", d, want...)
	flush(t, d)
	d.Crash([]uint8{1, 2, 3})
	holds(t, "P13.3", d, want...)
}

// TestSectorsThatThereAre: the first, the last, those beside them.
func TestSectorsThatThereAre(t *testing.T) {
	for _, n := range []int{0, 1, 2, 3, 1000} {
		d := sector.New(n)
		for _, i := range []int{math.MinInt, -n, -1, 0, 1, n - 1, n, n + 1, 1000, 1001, 1 << 32, math.MaxInt} {
			want := api.ErrDisk
			if i >= 0 && i < n {
				want = api.OK
			}
			if e := d.Write(i, []byte("ab")); e != want {
				t.Errorf("P13.1: of %d: Write(%d): %v, not %v", n, i, e, want)
			}
			b, e := d.Read(i)
			if e != want {
				t.Errorf("P13.1: of %d: Read(%d): %v, not %v", n, i, e, want)
			}
			if want == api.OK && string(b) != over("ab", noughts) || want != api.OK && len(b) > 0 {
				t.Errorf("P13.1: of %d: Read(%d): %q", n, i, b)
			}
		}
	}
}

// wrongs: what Write refuses on a disk of three sectors, by its words alone.
func wrongs() map[string]func(d *sector.Disk) api.Errno {
	return map[string]func(d *sector.Disk) api.Errno{
		"65 bytes":              func(d *sector.Disk) api.Errno { return d.Write(1, []byte(full("w")+"w")) },
		"65 noughts":            func(d *sector.Disk) api.Errno { return d.Write(1, make([]byte, size+1)) },
		"128 bytes":             func(d *sector.Disk) api.Errno { return d.Write(0, []byte(full("w")+full("w"))) },
		"very many bytes":       func(d *sector.Disk) api.Errno { return d.Write(2, make([]byte, 1<<20)) },
		"sector -1":             func(d *sector.Disk) api.Errno { return d.Write(-1, []byte("w")) },
		"sector -1, nothing":    func(d *sector.Disk) api.Errno { return d.Write(-1, nil) },
		"sector 3":              func(d *sector.Disk) api.Errno { return d.Write(3, []byte("w")) },
		"sector 3, nothing":     func(d *sector.Disk) api.Errno { return d.Write(3, nil) },
		"sector 3, 65 bytes":    func(d *sector.Disk) api.Errno { return d.Write(3, make([]byte, size+1)) },
		"the least of sectors":  func(d *sector.Disk) api.Errno { return d.Write(math.MinInt, []byte("w")) },
		"the greatest of them":  func(d *sector.Disk) api.Errno { return d.Write(math.MaxInt, []byte("w")) },
		"a number that wraps":   func(d *sector.Disk) api.Errno { return d.Write(1<<32+1, []byte("w")) },
		"Read of sector -1":     func(d *sector.Disk) api.Errno { _, e := d.Read(-1); return e },
		"Read of sector 3":      func(d *sector.Disk) api.Errno { _, e := d.Read(3); return e },
		"Read of the least":     func(d *sector.Disk) api.Errno { _, e := d.Read(math.MinInt); return e },
		"Read of the greatest":  func(d *sector.Disk) api.Errno { _, e := d.Read(math.MaxInt); return e },
		"Read of what wraps":    func(d *sector.Disk) api.Errno { _, e := d.Read(1 << 32); return e },
		"Read of a byte's wrap": func(d *sector.Disk) api.Errno { _, e := d.Read(256); return e },
	}
}

// TestWrongCallsChangeNothing: neither what is read, nor what is pending, nor what is kept.
func TestWrongCallsChangeNothing(t *testing.T) {
	for name, wrong := range wrongs() {
		for _, choices := range [][]uint8{nil, {1, 2, 3}, {255, 255, 255}} {
			d, twin := kept(t, full("a"), full("b"), full("c")), kept(t, full("a"), full("b"), full("c"))
			for _, one := range []*sector.Disk{d, twin} {
				write(t, one, 0, "new")
				write(t, one, 2, "newer")
			}
			if e := wrong(d); e != api.ErrDisk {
				t.Errorf("P13.1: %s: %v", name, e)
			}
			holds(t, "rule 4: "+name, d, sectors(t, twin)...)
			d.Crash(choices)
			twin.Crash(choices)
			holds(t, "rule 4: behind a crash: "+name, d, sectors(t, twin)...)
		}
	}
}

// TestSteps: each Write and Flush is one, whatever it tells; nothing else is.
func TestSteps(t *testing.T) {
	d := sector.New(2)
	for row, c := range []struct {
		name string
		do   func()
		more int
	}{
		{"Write", func() { d.Write(0, []byte("a")) }, 1},
		{"Write of nothing", func() { d.Write(1, nil) }, 1},
		{"Write of a whole sector", func() { d.Write(1, make([]byte, size)) }, 1},
		{"Write of more than a sector", func() { d.Write(1, make([]byte, size+1)) }, 1},
		{"Write of sector -1", func() { d.Write(-1, nil) }, 1},
		{"Write of sector Len", func() { d.Write(2, nil) }, 1},
		{"Flush", func() { d.Flush() }, 1},
		{"Flush of nothing", func() { d.Flush() }, 1},
		{"Read", func() { d.Read(0) }, 0},
		{"Read of sector -1", func() { d.Read(-1) }, 0},
		{"Read of sector Len", func() { d.Read(2) }, 0},
		{"Len", func() { d.Len() }, 0},
		{"Steps", func() { d.Steps() }, 0},
		{"Power(0)", func() { d.Power(0) }, 0},
		{"Power(7)", func() { d.Power(7) }, 0},
		{"Power(-7)", func() { d.Power(-7) }, 0},
		{"Crash", func() { d.Crash(nil) }, 0},
		{"Write ahead of Power", func() { d.Write(0, []byte("b")) }, 1},
		{"Power(1)", func() { d.Power(1) }, 0},
		{"Write at which the power goes", func() { d.Write(0, []byte("c")) }, 1},
		{"Write, off", func() { d.Write(0, []byte("d")) }, 1},
		{"Write of sector Len, off", func() { d.Write(2, nil) }, 1},
		{"Write of more than a sector, off", func() { d.Write(0, make([]byte, size+1)) }, 1},
		{"Flush, off", func() { d.Flush() }, 1},
		{"Read, off", func() { d.Read(0) }, 0},
		{"Power(3), off", func() { d.Power(3) }, 0},
		{"Crash, off", func() { d.Crash([]uint8{255, 255}) }, 0},
		{"Power(1), on again", func() { d.Power(1) }, 0},
		{"Flush at which the power goes", func() { d.Flush() }, 1},
		{"Crash, off again", func() { d.Crash(nil) }, 0},
		{"Flush, on again", func() { d.Flush() }, 1},
	} {
		before := d.Steps()
		c.do()
		if got := d.Steps() - before; got != c.more {
			t.Errorf("P13.1: row %d: %s: %d steps, not %d", row, c.name, got, c.more)
		}
	}
}

// TestFlushOfNothing: also again and again.
func TestFlushOfNothing(t *testing.T) {
	d := kept(t, full("a"), full("b"))
	want := sectors(t, d)
	for range 3 {
		flush(t, d)
		if got := sectors(t, d); !slices.Equal(got, want) {
			t.Fatalf("P13.1: %q became %q", want, got)
		}
	}
	d.Crash([]uint8{3, 3})
	holds(t, "P13.3", d, want...)
}
