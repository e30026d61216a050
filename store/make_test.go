package store_test

import (
	"math/rand/v2"
	"slices"
	"testing"

	"paddock/api"
	"paddock/journal"
	"paddock/sector"
	"paddock/store"
)

func TestMakeOfTooFewSectors(t *testing.T) {
	for _, n := range []int{-1, 0, 1, 7, 8, 9, 30, 31} {
		d := sector.New(n)
		for range 2 {
			if s, e := store.Make(d); s != nil || e != api.ErrRoom {
				t.Errorf("P15.1: %d sectors: %v, %v", n, s, e)
			}
			refuses(t, "P15.1: none was made", d, api.ErrForm)
		}
		if d.Steps() != 0 {
			t.Errorf("rule 4: %d sectors: the refused call took %d steps", n, d.Steps())
		}
		off(d)
		if s, e := store.Make(d); s != nil || e != api.ErrRoom {
			t.Errorf("P15.1: %d sectors, the power off: %v, %v", n, s, e)
		}
	}
	if s, e := store.Make(&sector.Disk{}); s != nil || e != api.ErrRoom {
		t.Errorf("P15.1: a disk without sectors: %v, %v", s, e)
	}
}

// TestMakeOfTooFewSectorsChangesNothing: what lies there stays, be it a journal's.
func TestMakeOfTooFewSectorsChangesNothing(t *testing.T) {
	for _, n := range []int{10, 31} {
		d := sector.New(n)
		j, e := journal.Format(d)
		if e != api.OK || j.Append("there") != api.OK {
			t.Fatal(e)
		}
		before := image(t, d)
		if s, e := store.Make(d); s != nil || e != api.ErrRoom {
			t.Errorf("P15.1: %v, %v", s, e)
		}
		if image(t, d) != before {
			t.Errorf("rule 4: %d sectors: a refused Make wrote", n)
		}
	}
}

func TestMake(t *testing.T) {
	for _, n := range []int{32, 33, 34, 63, 64, 999, 1000, 1001} {
		d := sector.New(n)
		s := making(t, d)
		holds(t, "P15.1", s, model{})
		if s.Broken() {
			t.Error("P15.3: a new one is broken")
		}
		kept(t, "P15.1", d, model{})
		doing(t, s, put("a", "1"))
		kept(t, "P15.1", d, model{"a": "1"})
	}
}

// TestMakeAgain: nothing is left of the store that was there, nor does it come back behind what the new one does.
func TestMakeAgain(t *testing.T) {
	for _, n := range []int{32, 33, 200, 1000} {
		d := sector.New(n)
		for round := range 6 {
			s := making(t, d)
			holds(t, "P15.1: made again", s, model{})
			kept(t, "P15.1: made again", d, model{})
			want := model{}
			for i := range round {
				tx := []api.Write{put(text('a', 1+i), text('b', 9*i)), drop("none")}
				doing(t, s, tx...)
				want = want.after(tx...)
				kept(t, "P15.1: made again", d, want)
			}
		}
		making(t, d)
		making(t, d)
		kept(t, "P15.1: made twice", d, model{})
	}
}

func TestMakeWithThePowerOff(t *testing.T) {
	for _, had := range []bool{false, true} {
		d := sector.New(32)
		if had {
			d, _, _ = with(t, 32, []api.Write{put("a", "1")})
		}
		off(d)
		for range 2 {
			if s, e := store.Make(d); s != nil || e != api.ErrPower {
				t.Errorf("P15.1: %v, %v", s, e)
			}
		}
		d.Crash(nil)
		if had {
			kept(t, "P15.1", d, model{"a": "1"})
		} else {
			refuses(t, "P15.1", d, api.ErrForm)
		}
	}
}

func TestOpenOfWhatWasNeverMade(t *testing.T) {
	r := rand.New(rand.NewPCG(15, 1))
	for _, n := range []int{-1, 0, 7, 8, 31, 32, 33, 1000} {
		d := sector.New(n)
		refuses(t, "P15.1: noughts", d, api.ErrForm)
		for i := range n {
			b := make([]byte, 64)
			for k := range b {
				b[k] = byte(r.UintN(256))
			}
			d.Write(i, b)
		}
		d.Flush()
		refuses(t, "P15.1: whatever bytes", d, api.ErrForm)
		if n >= fewest {
			making(t, d)
			kept(t, "P15.1: made over whatever bytes", d, model{})
		}
	}
}

// TestOpenOfJournalsThatNoStoreWrote: none of them is a store, whatever may be read out of their records; Make goes over them.
func TestOpenOfJournalsThatNoStoreWrote(t *testing.T) {
	for name, rec := range map[string]string{
		"one byte":  "\x00",
		"a text":    "some text or other",
		"noughts":   text(0, 1) + "\x00\x00\x00\x00\x00\x00\x00",
		"much":      text('a', 900),
		"all bytes": "\xff\xff\xff\xff\xff\xff\xff\xff",
	} {
		d := sector.New(100)
		j, _ := journal.Format(d)
		if e := j.Append(rec); e != api.OK {
			t.Fatal(e)
		}
		refuses(t, "P15.1: "+name, d, api.ErrForm)
		making(t, d)
		kept(t, "P15.1: "+name, d, model{})

		_, s, m := with(t, 100, []api.Write{put("a", "1")})
		holds(t, "P15.1", s, m)
		d, _, _ = with(t, 100, []api.Write{put("a", "1")})
		j, _, _ = journal.Open(d)
		if e := j.Append(rec); e != api.OK {
			t.Fatal(e)
		}
		refuses(t, "P15.1: behind a transaction: "+name, d, api.ErrForm)
	}
	d := sector.New(31)
	if _, e := journal.Format(d); e != api.OK {
		t.Fatal(e)
	}
	refuses(t, "P15.1: no store goes on 31 sectors", d, api.ErrForm)
}

// TestOpenOfManyTransactions: what all of them did, one behind the other; each Open is as good as the store that wrote.
func TestOpenOfManyTransactions(t *testing.T) {
	r := rand.New(rand.NewPCG(15, 2))
	for _, n := range []int{32, 33, 100, 1000} {
		d, s, m := with(t, n)
		for i := range 300 {
			key := text(byte('a'+r.IntN(5)), 1+r.IntN(3))
			tx := []api.Write{put(key, text(byte('A'+i%20), r.IntN(20))), drop(text(byte('a'+r.IntN(5)), 1))}
			if !m.after(tx...).fits(n) {
				continue
			}
			doing(t, s, tx...)
			m = m.after(tx...)
			if i%10 == 0 {
				kept(t, "P15.1", d, m)
			}
			if i%17 == 0 {
				s = opening(t, d)
			}
		}
		kept(t, "P15.1", d, m)
	}
}

// TestOpenWritesNothing: it goes on where the power would go at the next step, and as often as one likes.
func TestOpenWritesNothing(t *testing.T) {
	d, _, m := with(t, 40, []api.Write{put("a", "1"), put("b", text('c', 100))}, []api.Write{drop("a")})
	steps := d.Steps()
	d.Power(1)
	for range 3 {
		holds(t, "P15.1", opening(t, d), m)
	}
	if d.Steps() != steps {
		t.Errorf("P15.1: %d steps", d.Steps()-steps)
	}
	off(d)
	refuses(t, "P15.1: off", d, api.ErrPower)
	d.Crash([]uint8{255, 1, 63})
	kept(t, "P15.1", d, m)
	d = sector.New(50)
	off(d)
	refuses(t, "P15.1: noughts that nobody can read", d, api.ErrPower)
}

// TestTheExample: Do(a = 1), Crash, Open: a is 1.
func TestTheExample(t *testing.T) {
	for _, n := range []int{32, 33, 1000} {
		for _, choices := range [][]uint8{nil, {0}, {1, 1, 1}, {63}, {64}, slices.Repeat([]uint8{255}, 9)} {
			d, _, _ := with(t, n, []api.Write{put("a", "1")})
			d.Crash(choices)
			if b, there := opening(t, d).Get("a"); b != "1" || !there {
				t.Errorf("the example: %d sectors: %q, %v", n, b, there)
			}
		}
	}
}
