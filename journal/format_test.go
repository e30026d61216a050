package journal_test

import (
	"math/rand/v2"
	"slices"
	"strings"
	"testing"

	"paddock/api"
	"paddock/journal"
	"paddock/sector"
)

const (
	size    = 64
	longest = 20000
)

// limit: what the chapter's sum of lengths, and 16 for each record, may come to.
func limit(sectors int) int { return 64 * (sectors/2 - 4) }

// sum: what records come to by the chapter.
func sum(l []string) int {
	n := 0
	for _, rec := range l {
		n += len(rec) + 16
	}
	return n
}

// text: a record of so many bytes, no two bytes beside each other alike.
func text(letter byte, n int) string {
	b := make([]byte, n)
	for i := range b {
		b[i] = letter + byte(i%7)
	}
	return string(b)
}

func format(t *testing.T, d *sector.Disk) *journal.Journal {
	t.Helper()
	j, e := journal.Format(d)
	if j == nil || e != api.OK {
		t.Fatalf("P14.1: Format of %d sectors: %v, %v", d.Len(), j, e)
	}
	return j
}

func open(t *testing.T, d *sector.Disk) (*journal.Journal, []string) {
	t.Helper()
	j, l, e := journal.Open(d)
	if j == nil || e != api.OK {
		t.Fatalf("P14.1: Open of %d sectors: %v, %q, %v", d.Len(), j, l, e)
	}
	if all := j.All(); !slices.Equal(all, l) {
		t.Fatalf("P14.1: Open told %q, and All %q", l, all)
	}
	return j, l
}

// with: a new disk with a journal of these records.
func with(t *testing.T, sectors int, l ...string) (*sector.Disk, *journal.Journal) {
	t.Helper()
	d := sector.New(sectors)
	j := format(t, d)
	for _, rec := range l {
		if e := j.Append(rec); e != api.OK {
			t.Fatalf("P14.2: Append of %d bytes: %v", len(rec), e)
		}
	}
	return d, j
}

// holds: a journal that isn't broken has these records, and says so in all its calls.
func holds(t *testing.T, promise string, d *sector.Disk, j *journal.Journal, want ...string) {
	t.Helper()
	if got := j.All(); !slices.Equal(got, want) || j.Broken() {
		t.Fatalf("%s: the records are %q, not %q (broken: %v)", promise, got, want, j.Broken())
	}
	if least := max(limit(d.Len())-sum(want)-16, 0); j.Room() < least {
		t.Fatalf("%s: of %d sectors the room is %d, below %d", promise, d.Len(), j.Room(), least)
	}
}

// kept: so it is behind an Open, and behind a Crash that takes whatever it can.
func kept(t *testing.T, promise string, d *sector.Disk, want ...string) {
	t.Helper()
	j, _ := open(t, d)
	holds(t, promise+": opened", d, j, want...)
	d.Crash(nil)
	j, _ = open(t, d)
	holds(t, promise+": crashed", d, j, want...)
}

// refuses: no journal, no records, that error.
func refuses(t *testing.T, promise string, d *sector.Disk, want api.Errno) {
	t.Helper()
	if j, l, e := journal.Open(d); j != nil || len(l) > 0 || e != want {
		t.Fatalf("%s: Open: %v, %q, %v, not %v", promise, j, l, e, want)
	}
}

// off: a disk whose power is gone.
func off(d *sector.Disk) {
	d.Power(1)
	d.Flush()
}

func TestFormat(t *testing.T) {
	for _, n := range []int{-1, 0, 1, 4, 6, 7} {
		for _, isOff := range []bool{false, true} {
			d := sector.New(n)
			if isOff {
				off(d)
			}
			steps := d.Steps()
			if j, e := journal.Format(d); j != nil || e != api.ErrRoom || d.Steps() != steps {
				t.Errorf("P14.1: Format of %d sectors (off: %v): %v, %v, %d steps", n, isOff, j, e, d.Steps()-steps)
			}
		}
	}
	for _, n := range []int{8, 9, 10, 11, 12, 13, 40, 41, 699, 700, 999, 1000, 1001} {
		d := sector.New(n)
		j := format(t, d)
		holds(t, "P14.1", d, j)
		kept(t, "P14.1", d)
	}
}

func TestFormatWithThePowerOff(t *testing.T) {
	for _, n := range []int{8, 9, 1000} {
		d := sector.New(n)
		off(d)
		if j, e := journal.Format(d); j != nil || e != api.ErrPower {
			t.Errorf("P14.1: %d sectors: %v, %v", n, j, e)
		}
		d.Crash(nil)
		refuses(t, "P14.1: nothing was written", d, api.ErrForm)
	}
}

// TestFormatTwice: what was there is gone, for the second time too, and the room is that of a new one.
func TestFormatTwice(t *testing.T) {
	for _, n := range []int{8, 9, 40, 41, 1000} {
		d, j := with(t, n)
		for round := range 5 {
			want := []string{}
			for i := range round + 1 {
				rec := text('a', 5*i)
				if j.Append(rec) == api.OK {
					want = append(want, rec)
				}
			}
			kept(t, "P14.1", d, want...)
			j = format(t, d)
			holds(t, "P14.1: formatted again", d, j)
			kept(t, "P14.1: formatted again", d)
		}
	}
}

func TestOpenOfWhatWasNeverFormatted(t *testing.T) {
	for _, n := range []int{-1, 0, 1, 7, 8, 9, 50, 1000} {
		d := sector.New(n)
		refuses(t, "P14.1: noughts", d, api.ErrForm)
		if n < 8 {
			off(d)
			refuses(t, "P14.1: no journal goes on it, power or not", d, api.ErrForm)
		}
	}
	for _, n := range []int{8, 9, 1000} {
		d := sector.New(n)
		off(d)
		refuses(t, "P14.1: off", d, api.ErrPower)
		d, _ = with(t, n)
		off(d)
		refuses(t, "P14.1: off", d, api.ErrPower)
		d.Crash(nil)
		kept(t, "P14.1: on again", d)
	}
}

// TestWhateverBytes: nobody formatted them; Format takes such a disk as any other.
func TestWhateverBytes(t *testing.T) {
	r := rand.New(rand.NewPCG(14, 1))
	fills := []func() byte{
		func() byte { return byte(r.UintN(256)) },
		func() byte { return 255 },
		func() byte { return 1 },
		func() byte { return byte(r.UintN(2)) },
	}
	for round := range 400 {
		d := sector.New(8 + r.IntN(40))
		for i := range d.Len() {
			b := make([]byte, size)
			for k := range b {
				b[k] = fills[round%len(fills)]()
			}
			d.Write(i, b)
		}
		if round%3 > 0 {
			d.Flush()
		}
		refuses(t, "P14.1: whatever bytes", d, api.ErrForm)
		j := format(t, d)
		holds(t, "P14.1", d, j)
		kept(t, "P14.1", d)
	}
}

// TestOpenWritesNothing: it goes on where the power would go at the next step, and as often as one likes.
func TestOpenWritesNothing(t *testing.T) {
	d, _ := with(t, 40, "a", "", text('b', 200))
	steps := d.Steps()
	d.Power(1)
	for range 3 {
		if _, l := open(t, d); !slices.Equal(l, []string{"a", "", text('b', 200)}) {
			t.Errorf("P14.1: %q", l)
		}
	}
	if d.Steps() != steps {
		t.Errorf("P14.1: %d steps", d.Steps()-steps)
	}
}

// TestTheExample: Append("ab"), Crash, Open: ab.
func TestTheExample(t *testing.T) {
	for _, n := range []int{10, 11, 1000} {
		for _, choices := range [][]uint8{nil, {0}, {1, 1, 1}, {63}, {64}, {255, 255, 255, 255}} {
			d, _ := with(t, n, "ab")
			d.Crash(choices)
			if _, l := open(t, d); !slices.Equal(l, []string{"ab"}) {
				t.Errorf("the example: %d sectors: %q", n, l)
			}
		}
	}
}

// TestOpenedOnesGoOn: a journal that was opened is as good as the one that wrote.
func TestOpenedOnesGoOn(t *testing.T) {
	for _, n := range []int{40, 41} {
		d, j := with(t, n)
		var want []string
		for i := range 12 {
			rec := text(byte('a'+i), i*i%90)
			if e := j.Append(rec); e != api.OK {
				t.Fatalf("P14.2: %v", e)
			}
			want = append(want, rec)
			if i%4 == 3 {
				want = []string{strings.Repeat("r", i), ""}
				if e := j.Replace(want); e != api.OK {
					t.Fatalf("P14.2: %v", e)
				}
			}
			room := j.Room()
			var l []string
			j, l = open(t, d)
			if !slices.Equal(l, want) || j.Room() != room {
				t.Fatalf("P14.1: %q, not %q; the room is %d, not %d", l, want, j.Room(), room)
			}
		}
	}
}
