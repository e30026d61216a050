package store_test

import (
	"fmt"
	"math/rand/v2"
	"slices"
	"testing"

	"paddock/api"
)

func numbered(i int) string { return fmt.Sprintf("k%02d", i) }

// TestFortyKeys: the 40th goes in, the 41st doesn't, but where the transaction drops one.
func TestFortyKeys(t *testing.T) {
	d, s, m := with(t, 1000)
	for i := range mostKeys {
		doing(t, s, put(numbered(i), "b"))
		m = m.after(put(numbered(i), "b"))
	}
	holds(t, "P15.2", s, m)
	kept(t, "P15.2", d, m)
	for _, tx := range [][]api.Write{
		{put("new", "")},
		{put("new", ""), put(numbered(0), "other")},
		{drop("none"), put("new", "")},
		{drop(numbered(0)), put("new", ""), put("one more", "")},
		{drop(numbered(0)), put("new", ""), put(numbered(0), "b")},
		many(20),
	} {
		unchanged(t, d, s, m, tx, api.ErrRoom)
	}
	for _, tx := range [][]api.Write{
		{put(numbered(0), "other")},
		{put(numbered(39), "")},
		{drop(numbered(7)), put("new", "1")},
		{put("newer", "2"), drop("new")},
		{put("newest", "3"), drop("newest")},
		append(append(many(9), put("newest", "4"), drop("newer")), drops(many(9))...),
		{drop("none")},
	} {
		doing(t, s, tx...)
		m = m.after(tx...)
		holds(t, "P15.2", s, m)
		kept(t, "P15.2", d, m)
		if len(m) != mostKeys {
			t.Fatalf("the test: %d keys", len(m))
		}
	}
	unchanged(t, d, s, m, []api.Write{put("new", "")}, api.ErrRoom)
	doing(t, s, drop(numbered(1)))
	doing(t, s, put("new", ""))
	unchanged(t, d, s, m.after(drop(numbered(1)), put("new", "")), []api.Write{put("another", "")}, api.ErrRoom)
}

func drops(l []api.Write) []api.Write {
	var made []api.Write
	for _, w := range l {
		made = append(made, drop(w.Key))
	}
	return made
}

// TestSizeJustAtTheLimit: 16 times the sectors, and one above it, by new keys and by longer bytes.
func TestSizeJustAtTheLimit(t *testing.T) {
	for _, n := range []int{32, 33, 34, 63, 100, 101, 300} {
		most := 16 * n
		rest := most - 25 // of one key's bytes
		if rest <= mostBytes {
			d, s, m := with(t, n)
			unchanged(t, d, s, m, []api.Write{put("a", text('b', rest+1))}, api.ErrRoom)
			doing(t, s, put("a", text('b', rest)))
			m = m.after(put("a", text('b', rest)))
			holds(t, "P15.2", s, m)
			kept(t, "P15.2", d, m)
			for _, tx := range [][]api.Write{
				{put("a", text('c', rest+1))},
				{put("b", "")},
				{put("b", ""), put("a", text('c', rest-24))},
				{put("b", ""), put("c", ""), put("a", ""), put("a", text('c', rest-49))},
				{drop("none"), put("a", text('c', rest+1))},
				{drop("a"), put("ab", text('c', rest))},
			} {
				unchanged(t, d, s, m, tx, api.ErrRoom)
			}
			for _, tx := range [][]api.Write{
				{put("a", text('c', rest))},
				{put("b", ""), put("a", text('d', rest-25))},
				{put("a", text('e', rest)), drop("b")},
				{drop("a"), put("ab", text('c', rest-1))},
				{put("a", text('f', rest)), drop("ab")},
				{put("b", "gone"), put("a", ""), put("a", text('g', rest)), drop("b")},
				{put("a", text('h', mostBytes)), put("b", text('h', mostBytes)), drop("b"), put("a", text('i', rest))},
			} {
				doing(t, s, tx...)
				m = m.after(tx...)
				holds(t, "P15.2", s, m)
				kept(t, "P15.2", d, m)
				if m.size() != most {
					t.Fatalf("the test: the size is %d", m.size())
				}
			}
		}
	}
}

// TestSizeJustAtTheGreatestLimit: a thousand sectors take several keys.
func TestSizeJustAtTheGreatestLimit(t *testing.T) {
	d, s, m := with(t, 1000)
	rest := 16*1000 - 75 - 2*mostBytes
	tx := []api.Write{put("a", text('a', mostBytes)), put("b", text('b', mostBytes)), put("c", text('c', rest))}
	doing(t, s, tx...)
	m = m.after(tx...)
	kept(t, "P15.2", d, m)
	unchanged(t, d, s, m, []api.Write{put("c", text('d', rest+1))}, api.ErrRoom)
	unchanged(t, d, s, m, []api.Write{put("d", "")}, api.ErrRoom)
	unchanged(t, d, s, m, []api.Write{put("c", text('d', rest-24)), put("d", "")}, api.ErrRoom)
	doing(t, s, put("c", text('d', rest-25)), put("d", ""))
	doing(t, s, put("d", "e"), put("c", text('d', rest-26)))
	m = m.after(put("c", text('d', rest-26)), put("d", "e"))
	holds(t, "P15.2", s, m)
	kept(t, "P15.2", d, m)
	for range 20 { // twenty writes of the greatest length, and it stays just at the limit
		var tx []api.Write
		for i := range 18 {
			tx = append(tx, put("a", text(byte('e'+i), mostBytes)))
		}
		tx = append(tx, put("x", text('x', mostBytes)), drop("x"))
		doing(t, s, tx...)
		m = m.after(tx...)
		kept(t, "P15.2", d, m)
	}
}

// TestWhichErrorComesFirst: none ahead of no room, no room ahead of the power.
func TestWhichErrorComesFirst(t *testing.T) {
	d, s, m := with(t, 32, []api.Write{put("a", "1")})
	noRoom := []api.Write{put("b", text('b', 1000))}
	none := []api.Write{put("b", text('b', 1000)), put("", "")}
	unchanged(t, d, s, m, none, api.ErrForm)
	unchanged(t, d, s, m, noRoom, api.ErrRoom)
	off(d)
	for range 2 {
		if e := s.Do(none); e != api.ErrForm || s.Broken() {
			t.Errorf("P15.2: no transaction, the power off: %v, broken: %v", e, s.Broken())
		}
		if e := s.Do(noRoom); e != api.ErrRoom || s.Broken() {
			t.Errorf("P15.2: no room, the power off: %v, broken: %v", e, s.Broken())
		}
	}
	holds(t, "rule 4", s, m)
	for _, tx := range [][]api.Write{{drop("none")}, {drop("a")}, {put("a", "1")}, {put("a", "2")}, {put("b", ""), drop("b")}} {
		d, s, m := with(t, 32, []api.Write{put("a", "1")})
		off(d)
		if e := s.Do(tx); e != api.ErrPower || !s.Broken() {
			t.Errorf("P15.2: %v with the power off: %v, broken: %v", tx, e, s.Broken())
		}
		holds(t, "rule 4", s, m)
	}
}

// TestTheJournalMakesRoom: long rows of transactions on small disks, whose Size stays within what was said, are all done.
func TestTheJournalMakesRoom(t *testing.T) {
	for _, n := range []int{32, 33, 34, 35, 40, 64} {
		most := 16 * n
		rows := map[string]func(i int) []api.Write{
			"one key, just at the limit": func(i int) []api.Write { return []api.Write{put("a", text(byte('a'+i%9), most-25))} },
			"one key, a byte":            func(i int) []api.Write { return []api.Write{put("a", string(rune('a'+i%9)))} },
			"nothing to drop":            func(int) []api.Write { return []api.Write{drop("none")} },
			"twenty long keys, dropped": func(i int) []api.Write {
				var l []api.Write
				for k := range mostWrites {
					l = append(l, drop(text(byte('a'+k), mostKey)))
				}
				return l
			},
			"as many keys as go": func(i int) []api.Write {
				return []api.Write{drop(fmt.Sprint(i)), put(fmt.Sprint(i+min(most/29, mostKeys)-1), "b")}
			},
			"there and gone": func(i int) []api.Write {
				if i%2 == 0 {
					return []api.Write{put("a", text('b', most-25))}
				}
				return []api.Write{drop("a")}
			},
			"from key to key": func(i int) []api.Write {
				return []api.Write{put(fmt.Sprint(i%7), text('b', most/2)), drop(fmt.Sprint((i + 6) % 7))}
			},
			"twenty times the same": func(i int) []api.Write {
				return slices.Repeat([]api.Write{put("a", text(byte('a'+i%9), most-25))}, mostWrites)
			},
		}
		for name, row := range rows {
			d, s, m := with(t, n)
			made, before := 0, 0
			for i := range 400 {
				next := m.after(row(i)...)
				if !next.fits(n) {
					t.Fatalf("the test: %s: the size would be %d", name, next.size())
				}
				if e := s.Do(row(i)); e != api.OK {
					t.Fatalf("P15.2: %d sectors: %s: the %dth one: %v", n, name, i+1, e)
				}
				m = next
				now := records(t, d)
				if now <= before {
					made++
				}
				before = now
				holds(t, "P15.2", s, m)
				if i%13 == 0 {
					kept(t, "P15.4: "+name, d, m)
				}
			}
			if made == 0 {
				t.Errorf("the test: %d sectors: %s: the journal never made room", n, name)
			}
			kept(t, "P15.4: "+name, d, m)
		}
	}
}

// TestRowsOfAnyTransactions: random ones, held against the chapter's words, ErrRoom among them.
func TestRowsOfAnyTransactions(t *testing.T) {
	r := rand.New(rand.NewPCG(15, 4))
	for _, n := range []int{32, 33, 48, 100, 1000} {
		d, s, m := with(t, n)
		full, done := 0, 0
		for i := range 1500 {
			var tx []api.Write
			for range 1 + r.IntN(1+r.IntN(mostWrites)) {
				key := fmt.Sprint("k", r.IntN(50))
				if r.IntN(3) == 0 {
					tx = append(tx, drop(key))
				} else {
					tx = append(tx, put(key, text(byte(r.UintN(256)), r.IntN(1+r.IntN(min(16*n, mostBytes))))))
				}
			}
			next := m.after(tx...)
			if !next.fits(n) {
				if e := s.Do(tx); e != api.ErrRoom || s.Broken() {
					t.Fatalf("P15.2: %d keys, a size of %d on %d sectors: %v", len(next), next.size(), n, e)
				}
				full++
			} else {
				doing(t, s, tx...)
				m = next
				done++
			}
			holds(t, "P15.2", s, m)
			if i%50 == 0 {
				kept(t, "P15.4", d, m)
				s = opening(t, d)
			}
		}
		if full < 20 || done < 100 {
			t.Errorf("the test: %d sectors: %d without room, %d done", n, full, done)
		}
		kept(t, "P15.4", d, m)
	}
}
