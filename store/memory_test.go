package store_test

import (
	"fmt"
	"slices"
	"testing"

	"paddock/api"
	"paddock/sector"
	"paddock/store"
)

// roomy: a list that lies in a greater one, with something ahead of it and in the room behind it; and the greater one.
func roomy(tx []api.Write) ([]api.Write, []api.Write) {
	spare := put("spare", "room")
	all := append([]api.Write{spare}, tx...)
	all = append(all, spare, spare, spare)
	return all[1 : 1+len(tx)], all
}

// spoil writes over a list, as whoever was given it may.
func spoil(l []api.Write) {
	for i := range l {
		l[i] = drop("spoilt")
	}
}

// TestTransactionsAreNeitherTurnedNorKept: nor is the room around them, whatever comes of them; nor does that room count.
func TestTransactionsAreNeitherTurnedNorKept(t *testing.T) {
	for _, tx := range [][]api.Write{
		{},
		{put("a", "1")},
		{put("b", "2"), put("a", "3"), put("b", "4"), drop("c")},
		many(20),
		many(21),
		{put("b", ""), put("", "")},
		{put("b", text('b', 3000))},
		slices.Repeat([]api.Write{put("a", text('a', mostBytes)), drop("a")}, 10),
	} {
		for _, power := range []int{0, 1, 3} {
			d, s, m := with(t, 100, []api.Write{put("a", "has"), put("c", "")})
			d.Power(power)
			piece, all := roomy(tx)
			before := slices.Clone(all)
			e := s.Do(piece)
			if !slices.Equal(all, before) {
				t.Errorf("rule 3: Do turned %v into %v", before, all)
			}
			spoil(all)
			if e == api.OK {
				m = m.after(tx...)
			}
			holds(t, "rule 3: a transaction, written into", s, m)
			d.Crash(nil)
			kept(t, "rule 3: a transaction, written into", d, m)
			if e == api.OK {
				doing(t, s, put("new", "1"))
				kept(t, "rule 3: a transaction, written into", d, m.after(put("new", "1")))
			}
		}
	}
}

// TestKeysAnswersNewMemory: no answer is touched by another one, nor by what the store does.
func TestKeysAnswersNewMemory(t *testing.T) {
	d, s, m := with(t, 100, []api.Write{put("a", "1"), put("b", "2"), put("c", "3")})
	for _, x := range []*store.Store{s, opening(t, d)} {
		one, other := x.Keys(), x.Keys()
		one = one[:cap(one)]
		for i := range one {
			one[i] = "spoilt"
		}
		if !slices.Equal(other, m.keys()) {
			t.Errorf("rule 3: an answer, written into, made %q of another one", other)
		}
		holds(t, "rule 3: an answer, written into", x, m)
		_ = append(other[:1], "x", "y", "z", "zz")
		holds(t, "rule 3: an answer, written behind", x, m)
	}
	before := s.Keys()
	doing(t, s, drop("a"), put("0", ""), put("zz", ""))
	if !slices.Equal(before, []string{"a", "b", "c"}) {
		t.Errorf("rule 3: a Do made %q of an earlier answer", before)
	}
	kept(t, "rule 3", d, m.after(drop("a"), put("0", ""), put("zz", "")))
}

// TestStoresGoTheirOwnWays: on two disks, also where they were told the same.
func TestStoresGoTheirOwnWays(t *testing.T) {
	tx := []api.Write{put("a", "1"), put("b", "2")}
	d, s, m := with(t, 40, tx)
	other, x, _ := with(t, 40, tx)
	doing(t, s, drop("a"))
	holds(t, "rule 6", x, m)
	doing(t, x, put("b", "3"))
	holds(t, "rule 6", s, m.after(drop("a")))
	off(d)
	s.Do(tx)
	if !s.Broken() || x.Broken() {
		t.Errorf("rule 6: broken: %v, %v", s.Broken(), x.Broken())
	}
	doing(t, x, put("c", "4"))
	kept(t, "rule 6", other, m.after(put("b", "3"), put("c", "4")))
}

// TestTheSameIsDoneAlike: what was told the same lies alike on the disk, took as many steps, and is torn alike, whatever order a map is gone through.
func TestTheSameIsDoneAlike(t *testing.T) {
	play := func() string {
		d := sector.New(40)
		s := making(t, d)
		all := ""
		for i := range 40 {
			var tx []api.Write
			for k := range 9 {
				tx = append(tx, put(fmt.Sprint("key", (i+k)%11), text(byte('a'+i), k)))
			}
			if i%4 == 3 {
				d.Power(2 + i%9)
			}
			e := s.Do(tx)
			all += legible(d) + fmt.Sprint(e, d.Steps(), s.Keys(), s.Size())
			d.Crash([]uint8{40, 7, 255, 20, 63, 1, 9})
			if e != api.OK {
				s = opening(t, d)
			}
		}
		return all
	}
	want := play()
	for range 20 {
		if play() != want {
			t.Fatal("rule 6: the same calls came to something else")
		}
	}
}

// legible: what lies on a disk, where it can be read.
func legible(d *sector.Disk) string {
	all := ""
	for i := range d.Len() {
		b, e := d.Read(i)
		all += string(b) + fmt.Sprint(e)
	}
	return all
}
