package store

import (
	"slices"
	"strings"
	"testing"

	"paddock/api"
	"paddock/journal"
	"paddock/sector"
)

func lists() [][]api.Write {
	long := strings.Repeat("k", mostKey)
	return [][]api.Write{
		nil,
		{{Key: "a"}},
		{{Key: "a", Drop: true}},
		{{Key: "a", B: "1"}, {Key: "a", B: "1"}, {Key: "a", Drop: true}, {Key: "\x00", B: "\x00"}},
		{{Key: long, B: strings.Repeat("b", mostBytes)}, {Key: long, Drop: true}, {Key: "\xff", B: "\x00\x01a\x00\x00\x00"}},
		slices.Repeat([]api.Write{{Key: "a", B: "b"}, {Key: "c", Drop: true}}, 20),
	}
}

func TestRecordsComeBack(t *testing.T) {
	for _, l := range lists() {
		if got, is := writesOf(recordOf(l)); !is || !slices.Equal(got, l) {
			t.Errorf("P15.4: %d writes came back as %d, %v", len(l), len(got), is)
		}
	}
}

// TestRecordsThatAreCut: none of their beginnings is a record, but where a write ends.
func TestRecordsThatAreCut(t *testing.T) {
	for _, l := range lists() {
		rec := recordOf(l)
		ends := map[int][]api.Write{}
		for n := range l {
			ends[len(recordOf(l[:n]))] = l[:n]
		}
		for n := range rec {
			got, is := writesOf(rec[:n])
			if want, end := ends[n]; is != end || !slices.Equal(got, want) {
				t.Fatalf("P15.1: the first %d of %d bytes: %v, %v", n, len(rec), got, is)
			}
		}
	}
}

func TestRecordsThatAreNone(t *testing.T) {
	for name, rec := range map[string]string{
		"a byte":               "\x00",
		"no key":               "\x00\x00\x00\x00\x00",
		"a key that is long":   "\x00\x15" + strings.Repeat("k", 21) + "\x00\x00\x00",
		"another mark":         "\x00\x01a\x02\x00\x00",
		"the greatest mark":    "\x00\x01a\xff\x00\x00",
		"a drop with bytes":    "\x00\x01a\x01\x00\x01b",
		"bytes that are long":  "\x00\x01a\x00\x17\x71" + strings.Repeat("b", 6001),
		"bytes that end early": "\x00\x01a\x00\x00\x02b",
		"no mark":              "\x00\x01a",
		"a byte behind":        "\x00\x01a\x00\x00\x00\x00",
	} {
		for _, ahead := range []string{"", recordOf([]api.Write{{Key: "a", B: "b"}})} {
			if l, is := writesOf(ahead + rec); is || len(l) > 0 {
				t.Errorf("P15.1: %s: %v", name, l)
			}
			d := sector.New(500)
			j, _ := journal.Format(d)
			if e := j.Append(ahead + rec); e != api.OK {
				t.Fatal(e)
			}
			if s, e := Open(d); s != nil || e != api.ErrForm {
				t.Errorf("P15.1: %s: %v, %v", name, s, e)
			}
		}
	}
}

// TestRecordsThatComeToTooMuch: no store did what goes beyond its room, be it undone by the next record.
func TestRecordsThatComeToTooMuch(t *testing.T) {
	var keys, gone []api.Write
	for i := range mostKeys + 1 {
		keys = append(keys, api.Write{Key: string(rune('0' + i))})
		gone = append(gone, api.Write{Key: string(rune('0' + i)), Drop: true})
	}
	at := func(n int) []api.Write { return []api.Write{{Key: "a", B: strings.Repeat("b", n)}} }
	for i, c := range []struct {
		l  [][]api.Write
		is bool
	}{
		{[][]api.Write{keys[:40]}, true},
		{[][]api.Write{keys}, false},
		{[][]api.Write{keys, gone}, false},
		{[][]api.Write{keys[:40], append(gone[:1:1], keys[40])}, true},
		{[][]api.Write{at(100*16 - 25)}, true},
		{[][]api.Write{at(100*16 - 24)}, false},
		{[][]api.Write{at(100*16 - 24), at(0)}, false},
		{[][]api.Write{append(at(100*16-24), at(0)...)}, true},
	} {
		d := sector.New(100)
		j, _ := journal.Format(d)
		for _, l := range c.l {
			if e := j.Append(recordOf(l)); e != api.OK {
				t.Fatal(e)
			}
		}
		s, e := Open(d)
		if c.is && (s == nil || e != api.OK) || !c.is && (s != nil || e != api.ErrForm) {
			t.Errorf("P15.1: row %d: %v, %v", i, s, e)
		}
	}
}

// TestWhatIsLeftAlwaysFits: in a journal of any number of sectors, at the greatest Size, however many keys have it.
func TestWhatIsLeftAlwaysFits(t *testing.T) {
	for n := fewest; n <= 1000; n++ {
		for _, keys := range []int{1, 3, 13, mostKeys} {
			d := sector.New(n)
			s, e := Make(d)
			if e != api.OK {
				t.Fatal(e)
			}
			has := contents{}
			for i := range keys {
				key := string(rune('0' + i))
				left := s.room - has.size() - (perKey+1)*(keys-i)
				has.put(api.Write{Key: key, B: strings.Repeat("b", max(min(left, mostBytes), 0))})
			}
			if !s.fits(has) {
				continue // so many keys are too many for it
			}
			for range 2 {
				if e := s.journal.Replace([]string{recordOf(has.writes())}); e != api.OK {
					t.Fatalf("P15.2: %d sectors, %d keys, a size of %d: %v", n, keys, has.size(), e)
				}
			}
		}
	}
}
