package sector_test

import (
	"math/rand/v2"
	"testing"

	"paddock/sector"
)

// torn: what the chapter says of one choice, for a sector that was old and was written over with new.
func torn(c uint8, old, new string) string {
	switch c {
	case 0:
		return old
	case 255:
		return new
	}
	return over(new[:c%size], old)
}

// TestTheExample: Write, Crash without choices: noughts.
func TestTheExample(t *testing.T) {
	for _, choices := range [][]uint8{nil, {}} {
		d := sector.New(2)
		write(t, d, 1, "ab")
		d.Crash(choices)
		holds(t, "P13.2", d, noughts, noughts)
	}
}

// TestChoices: the edges written out.
func TestChoices(t *testing.T) {
	for _, c := range []struct {
		choice uint8
		news   int // so many bytes are what was written last
	}{{0, 0}, {1, 1}, {2, 2}, {62, 62}, {63, 63}, {64, 0}, {65, 1}, {127, 63}, {128, 0}, {129, 1}, {191, 63}, {192, 0}, {193, 1}, {253, 61}, {254, 62}, {255, 64}} {
		d := kept(t, full("o"))
		write(t, d, 0, full("n"))
		d.Crash([]uint8{c.choice})
		holds(t, "P13.2", d, over(full("n")[:c.news], full("o")))
	}
}

// TestAllChoicesAtAllLengths: what was written last is the whole sector, with the rest that stayed.
func TestAllChoicesAtAllLengths(t *testing.T) {
	for c := range 256 {
		for _, n := range []int{0, 1, 2, 10, 31, 62, 63, 64} {
			d := kept(t, full("o"))
			write(t, d, 0, full("n")[:n])
			d.Crash([]uint8{uint8(c)})
			holds(t, "P13.2", d, torn(uint8(c), full("o"), over(full("n")[:n], full("o"))))
		}
	}
}

// TestChoicesAreTakenByTheSectorsNumbers: not by the order of the writes, and by those that are pending alone.
func TestChoicesAreTakenByTheSectorsNumbers(t *testing.T) {
	for _, order := range [][]int{{1, 3, 4, 6}, {6, 4, 3, 1}, {3, 6, 1, 4}, {4, 1, 6, 3, 1, 4}, {6, 6, 1, 3, 4}} {
		for range 20 { // a map may be gone through in another order each time
			d := kept(t, full("a"), full("b"), full("c"), full("d"), full("e"), full("f"), full("g"), full("h"))
			for _, i := range order {
				write(t, d, i, full("n"))
			}
			d.Crash([]uint8{10, 255, 0, 84})
			holds(t, "P13.2", d, full("a"), torn(10, full("b"), full("n")), full("c"), full("n"), full("e"), full("f"), torn(84, full("g"), full("n")), full("h"))
		}
	}
}

// TestAllSectorsPending: as many as a disk can have, each with a choice of its own.
func TestAllSectorsPending(t *testing.T) {
	r := rand.New(rand.NewPCG(13, 2))
	d := sector.New(1000)
	var choices []uint8
	var want []string
	for i := range d.Len() {
		choices = append(choices, uint8(r.UintN(256)))
		want = append(want, torn(choices[i], noughts, full(string(rune('a'+i%26)))))
	}
	for _, i := range r.Perm(d.Len()) {
		write(t, d, i, full(string(rune('a'+i%26))))
	}
	d.Crash(choices)
	holds(t, "P13.2", d, want...)
}

// TestFewerAndMoreChoices: behind their end each one is 0; those that nobody takes count for nothing, then or later.
func TestFewerAndMoreChoices(t *testing.T) {
	all := []uint8{255, 3, 255, 70, 255, 255, 9}
	for n := range all {
		d := kept(t, full("a"), full("b"), full("c"), full("d"))
		for _, i := range []int{3, 0, 2} {
			write(t, d, i, full("n"))
		}
		d.Crash(all[:n])
		var of [3]uint8
		copy(of[:], all[:n])
		want := []string{torn(of[0], full("a"), full("n")), full("b"), torn(of[1], full("c"), full("n")), torn(of[2], full("d"), full("n"))}
		holds(t, "P13.2", d, want...)
		write(t, d, 1, full("m"))
		d.Crash(nil)
		holds(t, "P13.2", d, want...)
	}
}

// TestCrashWithThePowerOnAndOff: it is the same.
func TestCrashWithThePowerOnAndOff(t *testing.T) {
	for c := range 256 {
		for _, off := range []bool{false, true} {
			d := kept(t, full("a"), full("b"))
			write(t, d, 1, full("n"))
			if off {
				d.Power(1)
				d.Flush()
				isOff(t, d)
			}
			d.Crash([]uint8{uint8(c)})
			holds(t, "P13.2", d, full("a"), torn(uint8(c), full("b"), full("n")))
		}
	}
}

// TestASectorWrittenTwiceAheadOfAFlush: it is pending once; what was written between is gone.
func TestASectorWrittenTwiceAheadOfAFlush(t *testing.T) {
	for c := range 256 {
		d := kept(t, full("a"), full("b"))
		write(t, d, 0, full("m"))
		write(t, d, 0, full("n")[:20])
		write(t, d, 1, full("k"))
		d.Crash([]uint8{uint8(c), 5})
		holds(t, "P13.2", d, torn(uint8(c), full("a"), over(full("n")[:20], full("m"))), torn(5, full("b"), full("k")))
	}
}

// TestWritesThatChangeNoByteArePending: each takes a choice.
func TestWritesThatChangeNoByteArePending(t *testing.T) {
	for _, same := range []string{"", "a", full("a")} {
		d := kept(t, full("a"), full("b"))
		write(t, d, 0, same)
		write(t, d, 1, full("n"))
		d.Crash([]uint8{255, 6})
		holds(t, "P13.2", d, full("a"), torn(6, full("b"), full("n")))
	}
	d := kept(t, full("a"), full("b"))
	write(t, d, 0, "z")
	write(t, d, 0, "a") // as it is kept again
	write(t, d, 1, full("n"))
	d.Crash([]uint8{255, 6})
	holds(t, "P13.2", d, full("a"), torn(6, full("b"), full("n")))
}

// TestWritesThatErrAreNotPending: they take no choice.
func TestWritesThatErrAreNotPending(t *testing.T) {
	d := kept(t, full("a"), full("b"))
	d.Write(0, make([]byte, size+1))
	d.Write(-1, []byte("x"))
	write(t, d, 1, full("n"))
	d.Power(1)
	d.Write(0, []byte("x"))
	d.Crash([]uint8{6, 255})
	holds(t, "P13.2", d, full("a"), torn(6, full("b"), full("n")))
}

// TestBehindACrashAllIsKept: another one takes nothing away, and gives nothing back.
func TestBehindACrashAllIsKept(t *testing.T) {
	for c := range 256 {
		for _, later := range []uint8{0, 1, 40, 64, 255} {
			d := kept(t, full("a"), full("b"))
			write(t, d, 0, full("n"))
			want := torn(uint8(c), full("a"), full("n"))
			d.Crash([]uint8{uint8(c)})
			d.Crash([]uint8{later, later})
			holds(t, "P13.2", d, want, full("b"))
			write(t, d, 1, full("m")) // it alone is pending
			d.Crash([]uint8{later, 0})
			holds(t, "P13.2", d, want, torn(later, full("b"), full("m")))
			write(t, d, 0, full("k"))
			d.Crash(nil)
			holds(t, "P13.2", d, want, torn(later, full("b"), full("m")))
		}
	}
}

// TestWhatIsTornIsTornUponWhatIsKept: crash behind crash, each upon what the one ahead of it left.
func TestWhatIsTornIsTornUponWhatIsKept(t *testing.T) {
	d := sector.New(1)
	want := noughts
	for i, c := range []uint8{40, 20, 63, 1, 0, 255, 64, 254, 130, 7} {
		b := full(string(rune('a' + i)))
		write(t, d, 0, b)
		d.Crash([]uint8{c})
		want = torn(c, want, b)
		holds(t, "P13.2", d, want)
	}
}

// TestWhatWasFlushedIsThere: whatever is written, unflushed, beside it or over it, and whatever the choices are.
func TestWhatWasFlushedIsThere(t *testing.T) {
	r := rand.New(rand.NewPCG(13, 3))
	for range 3000 {
		n := 1 + r.IntN(6)
		d := sector.New(n)
		for range r.IntN(8) {
			write(t, d, r.IntN(n), full("f")[:r.IntN(size+1)])
		}
		flush(t, d)
		flushed := sectors(t, d)
		touched := map[int]int{}
		for range r.IntN(4) {
			i := r.IntN(n)
			touched[i] = 1
			write(t, d, i, full("n")[:r.IntN(size+1)])
		}
		written := sectors(t, d)
		if r.IntN(2) == 0 {
			d.Power(1)
			d.Flush()
		}
		choices := make([]uint8, r.IntN(n+2))
		for i := range choices {
			choices[i] = uint8(r.UintN(256))
		}
		d.Crash(choices)
		for i, s := range sectors(t, d) {
			if touched[i] == 0 && s != flushed[i] {
				t.Fatalf("P13.3: %v: sector %d was flushed as %q, and is %q", choices, i, flushed[i], s)
			}
			for k := range s {
				if s[k] != flushed[i][k] && s[k] != written[i][k] {
					t.Fatalf("P13.3: %v: sector %d: byte %d was neither flushed nor written: %q", choices, i, k, s)
				}
			}
		}
	}
}

// TestFlushedStaysBehindManyCrashes: also of what is written and lost over it.
func TestFlushedStaysBehindManyCrashes(t *testing.T) {
	d := kept(t, full("a"), "b", full("c")[:63])
	want := []string{full("a"), over("b", noughts), over(full("c")[:63], noughts)}
	for i := range 50 {
		write(t, d, i%3, full("n"))
		if i%2 == 0 {
			d.Power(1 + i%4)
			d.Write((i+1)%3, []byte("more"))
		}
		d.Crash(nil)
		holds(t, "P13.3", d, want...)
	}
}
