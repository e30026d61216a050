package store_test

import (
	"math/rand/v2"
	"slices"
	"strconv"
	"strings"
	"testing"

	"paddock/api"
	"paddock/sector"
	"paddock/store"
)

// many: so many writes of unlike keys.
func many(n int) []api.Write {
	l := make([]api.Write, n)
	for i := range l {
		l[i] = put("key"+strconv.Itoa(i), strconv.Itoa(i))
	}
	return l
}

// unchanged: a refused Do took no step, and turned nothing that is there or kept.
func unchanged(t *testing.T, d *sector.Disk, s *store.Store, m model, tx []api.Write, want api.Errno) {
	t.Helper()
	steps, before := d.Steps(), image(t, d)
	for range 2 {
		if e := s.Do(tx); e != want {
			t.Errorf("P15.2: Do of %d writes: %v, not %v", len(tx), e, want)
		}
	}
	holds(t, "rule 4", s, m)
	if s.Broken() || d.Steps() != steps || image(t, d) != before {
		t.Errorf("rule 4: a refused Do of %d writes: broken: %v, %d steps", len(tx), s.Broken(), d.Steps()-steps)
	}
	kept(t, "rule 4", d, m)
}

// TestHowManyWrites: 1 to 20.
func TestHowManyWrites(t *testing.T) {
	for _, n := range []int{0, 1, 2, 19, 20, 21, 22, 1000} {
		d, s, m := with(t, 1000, []api.Write{put("has", "it")})
		if n < 1 || n > mostWrites {
			unchanged(t, d, s, m, many(n), api.ErrForm)
			continue
		}
		doing(t, s, many(n)...)
		holds(t, "P15.2", s, m.after(many(n)...))
		kept(t, "P15.2", d, m.after(many(n)...))
	}
	d, s, m := with(t, 1000, []api.Write{put("has", "it")})
	unchanged(t, d, s, m, nil, api.ErrForm)
	unchanged(t, d, s, m, []api.Write{}, api.ErrForm)
	unchanged(t, d, s, m, slices.Repeat([]api.Write{put("a", "")}, 21), api.ErrForm)
	unchanged(t, d, s, m, slices.Repeat([]api.Write{drop("has")}, 21), api.ErrForm)
	doing(t, s, slices.Repeat([]api.Write{drop("has")}, 20)...)
	kept(t, "P15.2", d, model{})
}

// TestFormsOfWrites: one that is none makes the whole no transaction, wherever it stands.
func TestFormsOfWrites(t *testing.T) {
	var forms = []struct {
		w  api.Write
		is bool
	}{
		{put("", ""), false},
		{put("", "b"), false},
		{drop(""), false},
		{put("a", ""), true},
		{put("\x00", "\x00"), true},
		{put(text('a', mostKey), "b"), true},
		{put(text('a', mostKey+1), "b"), false},
		{put(text('a', 70000), "b"), false},
		{drop(text('a', mostKey)), true},
		{drop(text('a', mostKey+1)), false},
		{put("a", text('b', mostBytes)), true},
		{put("a", text('b', mostBytes+1)), false},
		{put("a", text('b', 65536)), false},
		{put("a", text('b', 70000)), false},
		{drop("none"), true},
		{drop("has"), true},
		{api.Write{Key: "has", B: "b", Drop: true}, false},
		{api.Write{Key: "none", B: "\x00", Drop: true}, false},
		{api.Write{Key: "has", B: "it", Drop: true}, false},
	}
	for i, f := range forms {
		good := put("good", "1")
		for _, tx := range [][]api.Write{{f.w}, {f.w, good}, {good, f.w}, {good, f.w, good}, append(many(19), f.w)} {
			d, s, m := with(t, 1000, []api.Write{put("has", "it")})
			if !f.is {
				unchanged(t, d, s, m, tx, api.ErrForm)
				continue
			}
			if e := s.Do(tx); e != api.OK {
				t.Errorf("P15.2: form %d: %v", i, e)
			}
			holds(t, "P15.2", s, m.after(tx...))
			kept(t, "P15.2", d, m.after(tx...))
		}
	}
}

// TestInOrder: of one key's writes the last one counts, be it a drop.
func TestInOrder(t *testing.T) {
	some := []api.Write{put("a", "1"), put("a", "22"), put("a", ""), drop("a"), put("b", "3"), drop("b")}
	for _, had := range []bool{false, true} {
		for _, one := range some {
			for _, two := range some {
				for _, three := range some {
					d, s, m := with(t, 32)
					if had {
						doing(t, s, put("a", "had"))
						m = m.after(put("a", "had"))
					}
					tx := []api.Write{one, two, three}
					doing(t, s, tx...)
					holds(t, "P15.2: in order", s, m.after(tx...))
					kept(t, "P15.4: in order", d, m.after(tx...))
				}
			}
		}
	}
}

// TestDrop: of a key that is there, that isn't, that the same transaction wrote; it may be written again.
func TestDrop(t *testing.T) {
	d, s, _ := with(t, 40, []api.Write{put("a", "1"), put("b", "")})
	for _, c := range []struct {
		tx   []api.Write
		want model
	}{
		{[]api.Write{drop("none")}, model{"a": "1", "b": ""}},
		{[]api.Write{drop("b")}, model{"a": "1"}},
		{[]api.Write{drop("b")}, model{"a": "1"}},
		{[]api.Write{put("c", "3"), drop("c")}, model{"a": "1"}},
		{[]api.Write{drop("c"), put("c", "4")}, model{"a": "1", "c": "4"}},
		{[]api.Write{drop("a"), drop("a"), put("a", "5"), drop("c")}, model{"a": "5"}},
		{[]api.Write{drop("a")}, model{}},
		{[]api.Write{drop("a"), drop("none")}, model{}},
		{[]api.Write{put("a", "")}, model{"a": ""}},
	} {
		doing(t, s, c.tx...)
		holds(t, "P15.2", s, c.want)
		kept(t, "P15.2", d, c.want)
	}
}

func TestGetOfWhatIsNotThere(t *testing.T) {
	_, s, _ := with(t, 40, []api.Write{put("ab", "1"), put("dropped", "2"), put("empty", "")}, []api.Write{drop("dropped")})
	for _, key := range []string{"", "a", "abc", "AB", "ab\x00", "dropped", "none", text('a', 20), text('a', 21), text('a', 70000)} {
		if b, there := s.Get(key); b != "" || there {
			t.Errorf("P15.2: %q: %q, %v", key, b, there)
		}
	}
	if b, there := s.Get("empty"); b != "" || !there {
		t.Errorf("P15.2: a key of no bytes: %q, %v", b, there)
	}
	if b, there := s.Get("ab"); b != "1" || !there {
		t.Errorf("P15.2: %q, %v", b, there)
	}
}

// TestKeysByteByByte: bytes above 127, noughts, a key that is the beginning of another one, what is no text at all.
func TestKeysByteByByte(t *testing.T) {
	want := []string{
		"\x00", "\x00\x00", "\x00a", "\x01", " ", "A", "B", "a", "a\x00", "aA", "aa", "aaa", "ab", "b", "\x7f", "\x80", "\x80\x00", "\xc3\xa4", "\xe2\x82\xac", "\xf0\x9f\x90\x8e", "\xff", "\xff\x00", "\xff\xff",
	}
	r := rand.New(rand.NewPCG(15, 3))
	for range 20 {
		d, s, m := with(t, 1000)
		for _, i := range r.Perm(len(want)) {
			doing(t, s, put(want[i], want[i]))
			m = m.after(put(want[i], want[i]))
		}
		for _, x := range []*store.Store{s, opening(t, d)} {
			if got := x.Keys(); !slices.Equal(got, want) {
				t.Fatalf("P15.2: the keys are %q, not %q", got, want)
			}
			holds(t, "P15.2", x, m)
		}
	}
	_, s, _ := with(t, 32)
	if l := s.Keys(); len(l) > 0 {
		t.Errorf("P15.2: the keys of none: %q", l)
	}
}

// TestSize: keys' and bytes' lengths, and 24 for each key.
func TestSize(t *testing.T) {
	_, s, _ := with(t, 1000)
	for _, c := range []struct {
		w    api.Write
		size int
	}{
		{put("a", ""), 25}, {put("a", "b"), 26}, {put("a", ""), 25}, {put("abc", "de"), 54},
		{put(text('k', 20), text('b', 6000)), 54 + 6044}, {drop("a"), 29 + 6044}, {drop("a"), 29 + 6044}, {drop("abc"), 6044},
	} {
		doing(t, s, c.w)
		if s.Size() != c.size {
			t.Errorf("P15.2: the size is %d, not %d", s.Size(), c.size)
		}
	}
}

// TestAnyBytes: keys and bytes that look like what the store itself may write.
func TestAnyBytes(t *testing.T) {
	d, _, _ := with(t, 32, []api.Write{put("a", "1"), put("b", "")}, []api.Write{drop("a")})
	all := image(t, d)
	var l []string
	for _, s := range []string{strings.Repeat("\x00", 70), strings.Repeat("\xff", 70), strings.Repeat("\x00\x01", 30), strings.Repeat("\x00\x01a\x01\x00\x00", 20), all, all[64:300], all[100:]} {
		for n := range 21 {
			l = append(l, s[n:])
		}
	}
	for _, b := range l {
		d, s, m := with(t, 500)
		tx := []api.Write{put(b[:1], b), put(b[:min(len(b), 20)], b[:len(b)/2]), put("end", "")}
		doing(t, s, tx...)
		m = m.after(tx...)
		holds(t, "P15.2", s, m)
		kept(t, "P15.4", d, m)
		doing(t, s, drop(b[:1]))
		kept(t, "P15.4", d, m.after(drop(b[:1])))
	}
}

// TestLongTransactions: more bytes in all than a record has; what is left behind counts.
func TestLongTransactions(t *testing.T) {
	long := func(i int) string { return text(byte('a'+i), mostBytes) }
	for _, n := range []int{32, 33, 500, 1000} {
		var tx []api.Write
		for i := range 19 {
			tx = append(tx, put("a", long(i)))
		}
		for _, last := range []api.Write{put("a", "short"), drop("a"), put("a", text('z', 16*n-25)[:min(16*n-25, mostBytes)])} {
			d, s, m := with(t, n, []api.Write{put("a", "has")})
			doing(t, s, append(slices.Clone(tx), last)...)
			m = m.after(last)
			holds(t, "P15.2", s, m)
			kept(t, "P15.4", d, m)
			doing(t, s, append(slices.Clone(tx), drop("a"))...)
			kept(t, "P15.4", d, model{})
		}
	}
}
