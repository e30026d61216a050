package sector_test

import (
	"slices"
	"testing"

	"paddock/api"
	"paddock/sector"
)

// spoil writes over a list and all the room behind it, as whoever was given it may.
func spoil(b []byte) {
	b = b[:cap(b)]
	for i := range b {
		b[i] = 0xee
	}
}

// roomy: a list that lies in a greater one, with something ahead of it and in the room behind it; and the greater one.
func roomy(b string) ([]byte, []byte) {
	all := []byte("ahead" + b + full("r") + full("r"))
	return all[5 : 5+len(b)], all
}

// TestWhatIsWrittenIsNeitherTurnedNorKept: nor is the room around it, also where it is refused.
func TestWhatIsWrittenIsNeitherTurnedNorKept(t *testing.T) {
	for _, b := range []string{"", "a", "abc", full("a")[:63], full("a"), full("a") + "a"} {
		for _, i := range []int{-1, 0, 1, 2} {
			for _, off := range []bool{false, true} {
				d := kept(t, full("x"), full("y"))
				if off {
					d.Power(1)
				}
				piece, all := roomy(b)
				before := slices.Clone(all)
				d.Write(i, piece)
				d.Flush()
				if !slices.Equal(all, before) {
					t.Errorf("rule 3: Write(%d, %q): the list, or the room around it, became %q", i, b, all)
				}
				d.Crash(nil)
				want := sectors(t, d)
				spoil(all)
				holds(t, "rule 3: a list, written into", d, want...)
			}
		}
	}
}

// TestPendingSharesNothingWithWhatWasHandedIn: ahead of a Flush, too, and what is flushed then is what was written.
func TestPendingSharesNothingWithWhatWasHandedIn(t *testing.T) {
	d := kept(t, full("x"))
	b := []byte(full("n"))
	d.Write(0, b)
	spoil(b)
	holds(t, "rule 3", d, full("n"))
	flush(t, d)
	holds(t, "rule 3", d, full("n"))
	d.Crash(nil)
	holds(t, "rule 3", d, full("n"))
}

// TestSpareRoomIsNotWritten: a list ends where its length says.
func TestSpareRoomIsNotWritten(t *testing.T) {
	d := kept(t, full("x"))
	piece, _ := roomy("ab")
	d.Write(0, piece)
	holds(t, "P13.1", d, over("ab", full("x")))
}

// TestChoicesAreNeitherTurnedNorKept: nor does the room behind them count.
func TestChoicesAreNeitherTurnedNorKept(t *testing.T) {
	for n := range 4 {
		d := kept(t, full("a"), full("b"))
		write(t, d, 0, full("n"))
		write(t, d, 1, full("m"))
		all := []uint8{255, 9, 255, 255, 255}
		d.Crash(all[:n])
		if !slices.Equal(all, []uint8{255, 9, 255, 255, 255}) {
			t.Errorf("rule 3: the choices became %v", all)
		}
		var of [2]uint8
		copy(of[:], all[:n])
		want := []string{torn(of[0], full("a"), full("n")), torn(of[1], full("b"), full("m"))}
		spoil(all)
		holds(t, "P13.2", d, want...)
		write(t, d, 1, full("k"))
		d.Crash(nil)
		holds(t, "rule 3", d, want...)
	}
}

// TestReadAnswersNewMemory: of a sector that is pending, and of one that is kept.
func TestReadAnswersNewMemory(t *testing.T) {
	for _, pending := range []bool{false, true} {
		d := kept(t, full("a"), full("b"))
		want := full("a")
		if pending {
			want = over("new", want)
			write(t, d, 0, "new")
		}
		one, _ := d.Read(0)
		other, _ := d.Read(0)
		spoil(one)
		if string(other) != want {
			t.Errorf("rule 3: an answer, written into, made %q of another one", other)
		}
		holds(t, "rule 3: an answer, written into", d, want, full("b"))
		flush(t, d)
		d.Crash(nil)
		holds(t, "rule 3: an answer, written into", d, want, full("b"))
	}
}

// TestAnswersAreNotTurnedByTheDisk: by what is written, flushed or torn later.
func TestAnswersAreNotTurnedByTheDisk(t *testing.T) {
	for _, pending := range []bool{false, true} {
		d := kept(t, full("a"))
		want := full("a")
		if pending {
			want = over("new", want)
			write(t, d, 0, "new")
		}
		b, _ := d.Read(0)
		write(t, d, 0, full("z"))
		flush(t, d)
		write(t, d, 0, full("y"))
		d.Crash([]uint8{30})
		write(t, d, 0, full("x"))
		if string(b) != want {
			t.Errorf("rule 3: what came later made %q of %q", b, want)
		}
	}
}

// TestWhatIsReadMayBeWritten: back, and into another sector, without tying them.
func TestWhatIsReadMayBeWritten(t *testing.T) {
	d := kept(t, full("a"), full("b"))
	b, _ := d.Read(0)
	write(t, d, 1, string(b))
	if e := d.Write(0, b); e != api.OK {
		t.Fatalf("P13.1: %v", e)
	}
	write(t, d, 0, "q")
	holds(t, "rule 3", d, over("q", full("a")), full("a"))
	if string(b) != full("a") {
		t.Errorf("rule 3: what was read became %q", b)
	}
}

// TestAZeroDiskHasNoSectors: it is as one that New was asked none of.
func TestAZeroDiskHasNoSectors(t *testing.T) {
	var d sector.Disk
	d.Crash([]uint8{1})
	if e := d.Write(0, nil); e != api.ErrDisk || d.Flush() != api.OK || d.Len() != 0 || d.Steps() != 2 {
		t.Errorf("rule 1: %v, %d, %d", e, d.Len(), d.Steps())
	}
}
