package journal_test

import (
	"math/rand/v2"
	"slices"
	"strings"
	"testing"

	"paddock/api"
	"paddock/bits"
	"paddock/journal"
	"paddock/sector"
)

// image: all that lies on a disk, one sector behind the other.
func image(t *testing.T, d *sector.Disk) string {
	t.Helper()
	var all strings.Builder
	for i := range d.Len() {
		b, e := d.Read(i)
		if e != api.OK {
			t.Fatal(e)
		}
		all.Write(b)
	}
	return all.String()
}

// summed: bytes with their sum ahead of them, behind them, and at both ends.
func summed(s string) []string {
	sum := string(bits.Put(nil, bits.Sum([]byte(s)), 8))
	return []string{sum + s, s + sum, sum + s + sum, string(bits.Text(nil, s)) + sum, string(bits.Text([]byte(sum), s))}
}

// lookalikes: records that look like what a journal may write: noughts, lengths, sums, and what lies on the disk of another one, moved to each place in a sector.
func lookalikes(t *testing.T) []string {
	t.Helper()
	d, _ := with(t, 12, "ab", "", text('c', 60))
	all := image(t, d)
	l := []string{
		strings.Repeat("\x00", 1), strings.Repeat("\x00", 63), strings.Repeat("\x00", 64), strings.Repeat("\x00", 128), strings.Repeat("\x00", 500),
		strings.Repeat("\xff", 64), strings.Repeat("\xff", 300), strings.Repeat("\x00\x00\x00\x01", 40),
		string(bits.Text(nil, "a")), string(bits.Text(bits.Text(nil, ""), "")), string(bits.Put(nil, 400, 2)), strings.Repeat(string(bits.Text(nil, "ab")), 40),
		all, all[:size], all[size : 2*size], all[:2*size], all[2*size:],
	}
	for shift := range size {
		if shift%7 == 0 || shift > 58 {
			l = append(l, strings.Repeat("s", shift)+all[:3*size])
		}
	}
	for _, s := range []string{"", "a", strings.Repeat("\x00", 40), all[size : 2*size]} {
		l = append(l, summed(s)...)
	}
	return l
}

// TestRecordsThatLookLikeTheJournal: each is told as it was handed in, ahead of and behind others.
func TestRecordsThatLookLikeTheJournal(t *testing.T) {
	all := lookalikes(t)
	for _, rec := range all {
		d, j := with(t, 200, "first", rec, "", rec, "last")
		holds(t, "P14.4", d, j, "first", rec, "", rec, "last")
		kept(t, "P14.4", d, "first", rec, "", rec, "last")
		if e := j.Replace([]string{rec, "x", rec}); e != api.OK {
			t.Fatal(e)
		}
		kept(t, "P14.4", d, rec, "x", rec)
	}
	d, j := with(t, 1000)
	if e := j.Replace(all); e != api.OK {
		t.Fatal(e)
	}
	kept(t, "P14.4", d, all...)
}

// TestTheyAreCut: whole, or not there, at each step, over whatever an earlier one left.
func TestTheyAreCut(t *testing.T) {
	for _, rec := range lookalikes(t) {
		for at, went := 1, true; went; at++ {
			for _, choices := range [][]uint8{nil, {255}, {0, 255, 255}, {63, 255, 1, 255}, slices.Repeat([]uint8{255}, 40), slices.Repeat([]uint8{30}, 40)} {
				d, j := with(t, 100, rec, rec)
				if e := j.Replace([]string{"has", rec}); e != api.OK {
					t.Fatal(e)
				}
				has := []string{"has", rec}
				went, has = cut(t, d, has, appending(rec), at, choices)
				_, has = cut(t, d, has, replacing(rec, "new"), at, choices)
				kept(t, "P14.4", d, has...)
			}
		}
	}
}

// TestWhatAnEarlierJournalLeft: its records lie behind those of the new one, byte by byte where they would go on; none of them comes back.
func TestWhatAnEarlierJournalLeft(t *testing.T) {
	for _, each := range []int{0, 1, 14, 30, 62, 64, 100} {
		d, j := with(t, 60)
		var old []string
		for i := range 8 {
			old = append(old, text(byte('a'+i), each))
		}
		for _, rec := range old {
			if e := j.Append(rec); e != api.OK {
				t.Fatal(e)
			}
		}
		for n := range len(old) + 1 { // each beginning of the old ones, written once more
			for _, anew := range []func(){
				func() { j = format(t, d) },
				func() { j.Replace(nil) },
				func() { j.Replace(old); j.Replace(nil) },
				func() { j.Replace(old); j = format(t, d) },
			} {
				anew()
				kept(t, "P14.4: nothing yet", d)
				for i := range n {
					if e := j.Append(old[i]); e != api.OK {
						t.Fatal(e)
					}
					kept(t, "P14.4: a beginning of the old ones", d, old[:i+1]...)
				}
			}
		}
	}
}

// TestCutOnesDoNotComeBack: a record that was lost in a cut isn't there behind the next one, though its bytes may lie there.
func TestCutOnesDoNotComeBack(t *testing.T) {
	lost := text('l', 100)
	for at := 1; at < 8; at++ {
		for _, choices := range edges() {
			d, _ := with(t, 40, "has")
			_, has := cut(t, d, []string{"has"}, appending(lost), at, choices)
			j, _ := open(t, d)
			for _, rec := range []string{"", "n", text('l', 60)} {
				if e := j.Append(rec); e != api.OK {
					t.Fatal(e)
				}
				has = append(slices.Clone(has), rec)
				kept(t, "P14.4", d, has...)
			}
		}
	}
}

// TestAnyBytesAtAll: random records of few kinds of bytes, with cuts.
func TestAnyBytesAtAll(t *testing.T) {
	r := rand.New(rand.NewPCG(14, 4))
	for range 100 {
		kinds := 1 + r.IntN(3)
		d, _ := with(t, 80)
		var has []string
		for range 15 {
			b := make([]byte, r.IntN(140))
			for i := range b {
				b[i] = byte(r.IntN(kinds))
			}
			c := appending(string(b))
			if sum(c.make(has)) > limit(80) || r.IntN(5) == 0 {
				c = replacing(string(b), string(b[:len(b)/2]))
			}
			choices := make([]uint8, 10)
			for i := range choices {
				choices[i] = uint8(r.UintN(256))
			}
			_, has = cut(t, d, has, c, r.IntN(9), choices)
		}
		kept(t, "P14.4", d, has...)
	}
}

// TestDamagedDisks: nobody promises anything of a disk that others wrote on; but Open and Format end, and what Open gives goes on.
func TestDamagedDisks(t *testing.T) {
	r := rand.New(rand.NewPCG(14, 5))
	for range 3000 {
		d, j := with(t, 8+r.IntN(20))
		j.Append("a")
		j.Append(text('b', 40))
		j.Replace([]string{"c", "d"})
		for range 1 + r.IntN(3) {
			i := r.IntN(min(d.Len(), 4))
			b, _ := d.Read(i)
			b[r.IntN(size)] = byte(r.UintN(256))
			d.Write(i, b)
		}
		if j, l, e := journal.Open(d); e == api.OK {
			j.Append("e")
			j.Replace(l)
		} else if j != nil || len(l) > 0 || e != api.ErrForm {
			t.Fatalf("P14.1: %v, %q, %v", j, l, e)
		}
		kept(t, "P14.1", d, records(t, format(t, d))...)
	}
}
