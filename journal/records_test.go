package journal_test

import (
	"math/rand/v2"
	"slices"
	"strings"
	"testing"

	"paddock/api"
	"paddock/journal"
	"paddock/sector"
)

// lengths: at and around what a sector, two of them, and a record with what it takes can have.
func lengths() []int {
	return []int{0, 1, 2, 15, 16, 45, 47, 48, 49, 61, 62, 63, 64, 65, 125, 126, 127, 128, 129, 200, 255, 256, 257, 1000}
}

func TestAppend(t *testing.T) {
	for _, n := range append(lengths(), 19999, longest) {
		d, j := with(t, 1000)
		var want []string
		for _, rec := range []string{text('a', n), "", text('b', n%500), "\x00", text('c', n%70)} {
			if e := j.Append(rec); e != api.OK {
				t.Fatalf("P14.2: Append of %d bytes: %v", len(rec), e)
			}
			want = append(want, rec)
			holds(t, "P14.2", d, j, want...)
			kept(t, "P14.2", d, want...)
		}
	}
}

// TestMoreThanARecord: ErrForm also where the room would do, and where it wouldn't; nothing is changed.
func TestMoreThanARecord(t *testing.T) {
	for _, n := range []int{8, 9, 40, 700, 1000} {
		for _, long := range []int{longest + 1, longest + 2, 40000, 65535, 65536, 70000, 1 << 20} {
			d, j := with(t, n)
			var want []string
			if j.Append("ab") == api.OK {
				want = append(want, "ab")
			}
			steps, room := d.Steps(), j.Room()
			big := strings.Repeat("x", long)
			for _, e := range []api.Errno{
				j.Append(big),
				j.Replace([]string{big}),
				j.Replace([]string{"a", big}),
				j.Replace([]string{big, "a"}),
				j.Replace(append(slices.Repeat([]string{text('r', longest)}, 3), big)), // no room for them, too
			} {
				if e != api.ErrForm {
					t.Errorf("P14.2: %d bytes on %d sectors: %v", long, n, e)
				}
			}
			holds(t, "P14.2: ErrForm", d, j, want...)
			if j.Room() != room || d.Steps() != steps {
				t.Errorf("P14.2: ErrForm: the room is %d, not %d; %d steps", j.Room(), room, d.Steps()-steps)
			}
			kept(t, "P14.2: ErrForm", d, want...)
		}
	}
}

// TestRoomOfANewOne: by the chapter's sum, on disks with an even and an odd number of sectors.
func TestRoomOfANewOne(t *testing.T) {
	for _, c := range []struct{ sectors, least int }{
		{8, 0}, {9, 0}, {10, 48}, {11, 48}, {12, 112}, {13, 112}, {40, 1008}, {41, 1008}, {700, 22128}, {701, 22128}, {999, 31664}, {1000, 31728},
	} {
		d, j := with(t, c.sectors)
		if j.Room() < c.least {
			t.Errorf("P14.2: %d sectors: %d, below %d", c.sectors, j.Room(), c.least)
		}
		j, _ = open(t, d)
		if j.Room() < c.least {
			t.Errorf("P14.2: %d sectors, opened: %d, below %d", c.sectors, j.Room(), c.least)
		}
	}
}

// TestAppendOfTheRoom: as many bytes as Room tells go in; one more doesn't, and changes nothing.
func TestAppendOfTheRoom(t *testing.T) {
	for _, n := range []int{10, 11, 12, 13, 20, 21, 40, 41, 100, 601} {
		for _, first := range lengths() {
			d, j := with(t, n)
			var want []string
			if rec := text('f', first); j.Append(rec) == api.OK {
				want = append(want, rec)
			}
			least := limit(n) - sum(want) - 16
			if least < 0 || j.Room() > longest-1 {
				continue
			}
			steps := d.Steps()
			if e := j.Append(text('x', j.Room()+1)); e != api.ErrRoom || d.Steps() != steps {
				t.Fatalf("P14.2: %d sectors, %d and %d bytes: %v", n, first, j.Room()+1, e)
			}
			holds(t, "P14.2: ErrRoom", d, j, want...)
			last := text('l', j.Room())
			if e := j.Append(last); e != api.OK {
				t.Fatalf("P14.2: %d sectors, %d and %d bytes: %v", n, first, j.Room(), e)
			}
			want = append(want, last)
			holds(t, "P14.2", d, j, want...)
			kept(t, "P14.2", d, want...)
		}
	}
}

// TestAppendAtTheLongestRecord: where the room is greater than that a record of 20000 goes in, and where it is less it doesn't.
func TestAppendAtTheLongestRecord(t *testing.T) {
	d, j := with(t, 1000)
	long := text('l', longest)
	if e := j.Append(long); e != api.OK {
		t.Fatalf("P14.2: %v", e)
	}
	holds(t, "P14.2", d, j, long)
	if room, e := j.Room(), j.Append(long); (e == api.OK) != (room >= longest) || e != api.OK && e != api.ErrRoom {
		t.Fatalf("P14.2: the room is %d: %v", room, e)
	}
	d, j = with(t, 100)
	if e := j.Append(long); e != api.ErrRoom {
		t.Fatalf("P14.2: %v", e)
	}
	holds(t, "P14.2", d, j)
	kept(t, "P14.2", d)
}

// TestUntilThereIsNoRoomAtAll: as many as the chapter's sum lets in go in at least; from the first refusal of nothing on all are refused.
func TestUntilThereIsNoRoomAtAll(t *testing.T) {
	for _, n := range []int{8, 9, 10, 11, 12, 40, 41} {
		for _, each := range []int{0, 1, 7, 46, 62, 64, 100} {
			d, j := with(t, n)
			var want []string
			for {
				rec := text(byte('a'+len(want)%20), each)
				fits := sum(want)+16+each <= limit(n)
				e := j.Append(rec)
				if e == api.OK {
					want = append(want, rec)
					holds(t, "P14.2", d, j, want...)
					continue
				}
				if e != api.ErrRoom || fits {
					t.Fatalf("P14.2: %d sectors: %d records of %d bytes, one more: %v", n, len(want), each, e)
				}
				break
			}
			for j.Append("") == api.OK {
				want = append(want, "")
			}
			if j.Room() != 0 {
				t.Errorf("P14.2: not a byte goes in, but the room is %d", j.Room())
			}
			for _, rec := range []string{"", "a", text('l', longest)} {
				if e := j.Append(rec); e != api.ErrRoom {
					t.Errorf("P14.2: no room at all, %d bytes: %v", len(rec), e)
				}
			}
			holds(t, "P14.2: full", d, j, want...)
			kept(t, "P14.2: full", d, want...)
			j, _ = open(t, d)
			if e := j.Append(""); e != api.ErrRoom || j.Room() != 0 {
				t.Errorf("P14.2: full, opened: %v, %d", e, j.Room())
			}
			if e := j.Replace(nil); e != api.OK {
				t.Errorf("P14.2: full, replaced by none: %v", e)
			}
			holds(t, "P14.2: empty again", d, j)
		}
	}
}

// TestReplaceAtTheSum: what comes to the chapter's sum just fits; a byte or a record more doesn't, and changes nothing.
func TestReplaceAtTheSum(t *testing.T) {
	for _, n := range []int{10, 11, 12, 13, 40, 41, 700, 1000} {
		for _, parts := range []int{1, 2, 3, 4} {
			share := limit(n)/parts - 16
			if share < 0 {
				continue
			}
			var l []string
			for i := range parts {
				l = append(l, text(byte('a'+i), min(share, longest)))
			}
			for sum(l) <= limit(n)-16 {
				l = append(l, text('z', min(limit(n)-sum(l)-16, longest)))
			}
			l[0] += text('k', min(limit(n)-sum(l), longest-len(l[0])))
			if sum(l) != limit(n) {
				t.Fatalf("the test: %d, not %d", sum(l), limit(n))
			}
			d, j := with(t, n, "before")
			if e := j.Replace(l); e != api.OK {
				t.Fatalf("P14.2: %d sectors, %d records: %v", n, len(l), e)
			}
			holds(t, "P14.2", d, j, l...)
			kept(t, "P14.2", d, l...)
			last := len(l) - 1
			for _, more := range [][]string{
				append(slices.Clone(l), ""),
				append(slices.Clone(l[:last]), l[last]+"x"),
			} {
				if len(more[last]) > longest {
					continue
				}
				d, j := with(t, n, "before")
				steps := d.Steps()
				if e := j.Replace(more); e != api.ErrRoom || d.Steps() != steps {
					t.Fatalf("P14.2: %d sectors, %d records and more: %v", n, len(l), e)
				}
				holds(t, "P14.2: ErrRoom", d, j, "before")
				kept(t, "P14.2: ErrRoom", d, "before")
			}
		}
	}
}

// TestReplaceByEmptyOnes: 16 for each count, whatever the program takes for them.
func TestReplaceByEmptyOnes(t *testing.T) {
	for _, n := range []int{8, 9, 10, 11, 40, 41, 1000} {
		d, j := with(t, n)
		l := make([]string, limit(n)/16)
		if e := j.Replace(l); e != api.OK {
			t.Fatalf("P14.2: %d sectors, %d records: %v", n, len(l), e)
		}
		holds(t, "P14.2", d, j, l...)
		kept(t, "P14.2", d, l...)
		if e := j.Replace(make([]string, limit(n)/16+1)); e != api.ErrRoom {
			t.Fatalf("P14.2: %d sectors, %d records: %v", n, len(l)+1, e)
		}
		holds(t, "P14.2: ErrRoom", d, j, l...)
		if e := j.Replace([]string{}); e != api.OK {
			t.Fatalf("P14.2: by none: %v", e)
		}
		holds(t, "P14.2: by none", d, j)
		kept(t, "P14.2: by none", d)
	}
}

// TestReplaceAgainAndAgain: by none, by one, by more, each from each, with an Append behind it.
func TestReplaceAgainAndAgain(t *testing.T) {
	lists := [][]string{nil, {}, {""}, {"a"}, {text('b', 300)}, {"", "", ""}, {text('c', 62), text('d', 62)}, {text('e', 500), "f", text('g', 200)}}
	for _, n := range []int{40, 41} {
		d, j := with(t, n, "first")
		for _, a := range lists {
			for _, b := range lists {
				for _, l := range [][]string{a, b} {
					if e := j.Replace(l); e != api.OK {
						t.Fatalf("P14.2: %v", e)
					}
					holds(t, "P14.2", d, j, l...)
					kept(t, "P14.2", d, l...)
				}
				want := append(slices.Clone(b), "behind")
				if e := j.Append("behind"); e != api.OK {
					t.Fatalf("P14.2: %v", e)
				}
				holds(t, "P14.2", d, j, want...)
				kept(t, "P14.2", d, want...)
			}
		}
	}
}

// TestLongRows: anything at all, held against a list kept beside it; what the sum lets in must go in.
func TestLongRows(t *testing.T) {
	r := rand.New(rand.NewPCG(14, 2))
	for range 150 {
		n := 8 + r.IntN(60)
		d, j := with(t, n)
		var want []string
		for range 60 {
			most := []int{2, 40, 70, 300}[r.IntN(4)]
			some := func() string { return text(byte(r.UintN(256)), r.IntN(most)) }
			next, e := []string{}, api.OK
			switch r.IntN(8) {
			case 0:
				for range r.IntN(5) {
					next = append(next, some())
				}
				e = j.Replace(next)
			case 1:
				j, next = open(t, d)
			case 2:
				if r.IntN(4) > 0 {
					continue
				}
				j = format(t, d)
			default:
				next = append(slices.Clone(want), some())
				e = j.Append(next[len(next)-1])
			}
			if e == api.OK {
				want = next
			} else if e != api.ErrRoom || sum(next) <= limit(n) {
				t.Fatalf("P14.2: %d sectors, %d of %d: %v", n, sum(next), limit(n), e)
			}
			holds(t, "P14.2", d, j, want...)
			if r.IntN(4) == 0 {
				kept(t, "P14.2", d, want...)
			}
		}
	}
}

// spoil writes over a list and all the room behind it, as whoever was given it may.
func spoil(l []string) {
	l = l[:cap(l)]
	for i := range l {
		l[i] = "spoilt"
	}
}

// TestAnswersAreTheirOwn: whatever is done with one, the journal and the other answers stay.
func TestAnswersAreTheirOwn(t *testing.T) {
	d, j := with(t, 40, "a", "b", "c")
	x, opened, e := journal.Open(d)
	if e != api.OK {
		t.Fatal(e)
	}
	one, other, third := j.All(), j.All(), x.All()
	spoil(one)
	spoil(opened)
	for _, l := range [][]string{other, third} {
		if !slices.Equal(l, []string{"a", "b", "c"}) {
			t.Errorf("rule 3: another answer became %q", l)
		}
	}
	holds(t, "rule 3", d, j, "a", "b", "c")
	holds(t, "rule 3", d, x, "a", "b", "c")
	before := j.All()
	spoil(before)
	for _, rec := range []string{"d", "e"} { // the room behind an answer is no room of the journal's
		if e := j.Append(rec); e != api.OK {
			t.Fatal(e)
		}
		spoil(j.All())
	}
	holds(t, "rule 3", d, j, "a", "b", "c", "d", "e")
	if !slices.Equal(other, []string{"a", "b", "c"}) {
		t.Errorf("rule 3: an earlier answer became %q", other)
	}
	kept(t, "rule 3", d, "a", "b", "c", "d", "e")
}

// TestWhatIsHandedInIsNeitherTurnedNorKept: the list, and the room around it.
func TestWhatIsHandedInIsNeitherTurnedNorKept(t *testing.T) {
	for _, c := range []struct {
		l    []string
		want api.Errno
	}{
		{nil, api.OK}, {[]string{"x", "", "y"}, api.OK}, {[]string{"x", strings.Repeat("y", longest+1)}, api.ErrForm}, {[]string{text('x', 5000)}, api.ErrRoom},
	} {
		for _, isOff := range []bool{false, true} {
			all := append(append([]string{"ahead"}, c.l...), "room", "more room")
			before := slices.Clone(all)
			d, j := with(t, 40, "has")
			want, has := c.want, []string{"has"}
			if isOff {
				off(d)
			}
			if isOff && want == api.OK {
				want = api.ErrPower
			}
			if e := j.Replace(all[1 : 1+len(c.l)]); e != want {
				t.Fatalf("P14.2: %v, not %v", e, want)
			}
			if !slices.Equal(all, before) {
				t.Errorf("rule 3: the list, or the room around it, became %q", all)
			}
			spoil(all)
			if want == api.OK {
				has = c.l
			}
			if e := j.Append("behind"); e == api.OK {
				has = append(slices.Clone(has), "behind")
			}
			if got := j.All(); !slices.Equal(got, has) {
				t.Errorf("rule 3: %q, not %q", got, has)
			}
			if !slices.Equal(all[:2], []string{"spoilt", "spoilt"}) {
				t.Errorf("rule 3: it was written into later: %q", all)
			}
			d.Crash(nil)
			kept(t, "rule 3", d, has...)
		}
	}
}

// TestTwoDisks: what is told to one journal is nothing to another.
func TestTwoDisks(t *testing.T) {
	d, j := with(t, 40, "a")
	other, x := with(t, 41, "b")
	j.Append("c")
	x.Replace([]string{"d"})
	off(other)
	if e := x.Append("e"); e != api.ErrPower {
		t.Fatal(e)
	}
	holds(t, "rule 6", d, j, "a", "c")
	kept(t, "rule 6", d, "a", "c")
	other.Crash(nil)
	kept(t, "rule 6", other, "d")
}

// TestOnlyTheDisksLengthCounts: the room of two disks with as many sectors is the same, whatever they went through.
func TestOnlyTheDisksLengthCounts(t *testing.T) {
	d, j := with(t, 30)
	for range 100 {
		j.Append(text('a', 50))
		j.Replace([]string{"b"})
		j = format(t, d)
	}
	if fresh := format(t, sector.New(30)); j.Room() != fresh.Room() {
		t.Errorf("P14.2: %d and %d", j.Room(), fresh.Room())
	}
}
