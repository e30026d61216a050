package store_test

import (
	"fmt"
	"maps"
	"slices"
	"strings"
	"testing"

	"paddock/api"
	"paddock/journal"
	"paddock/sector"
	"paddock/store"
)

const (
	fewest     = 32
	mostWrites = 20
	mostKey    = 20
	mostBytes  = 6000
	mostKeys   = 40
)

// model: what a store is to have, by the chapter's words.
type model map[string]string

func (m model) after(tx ...api.Write) model {
	next := maps.Clone(m)
	if next == nil {
		next = model{}
	}
	for _, w := range tx {
		if w.Drop {
			delete(next, w.Key)
		} else {
			next[w.Key] = w.B
		}
	}
	return next
}

func (m model) size() int {
	n := 0
	for key, b := range m {
		n += len(key) + len(b) + 24
	}
	return n
}

func (m model) keys() []string {
	l := slices.Collect(maps.Keys(m))
	slices.SortFunc(l, func(a, b string) int { return slices.Compare([]byte(a), []byte(b)) })
	return l
}

func (m model) fits(sectors int) bool { return len(m) <= mostKeys && m.size() <= 16*sectors }

func (m model) is(other model) bool { return maps.Equal(m, other) }

func (m model) String() string {
	var l []string
	for _, key := range m.keys() {
		b := m[key]
		if len(b) > 12 {
			b = fmt.Sprintf("%s.. (%d)", b[:12], len(b))
		}
		l = append(l, fmt.Sprintf("%q=%q", key, b))
	}
	return "{" + strings.Join(l, " ") + "}"
}

func put(key, b string) api.Write { return api.Write{Key: key, B: b} }

func drop(key string) api.Write { return api.Write{Key: key, Drop: true} }

// text: so many bytes, no two beside each other alike.
func text(letter byte, n int) string {
	b := make([]byte, n)
	for i := range b {
		b[i] = letter + byte(i%7)
	}
	return string(b)
}

func making(t *testing.T, d *sector.Disk) *store.Store {
	t.Helper()
	s, e := store.Make(d)
	if s == nil || e != api.OK {
		t.Fatalf("P15.1: Make on %d sectors: %v, %v", d.Len(), s, e)
	}
	return s
}

func opening(t *testing.T, d *sector.Disk) *store.Store {
	t.Helper()
	s, e := store.Open(d)
	if s == nil || e != api.OK {
		t.Fatalf("P15.1: Open of %d sectors: %v, %v", d.Len(), s, e)
	}
	if s.Broken() {
		t.Fatal("P15.3: one that was just opened is broken")
	}
	return s
}

func doing(t *testing.T, s *store.Store, tx ...api.Write) {
	t.Helper()
	if e := s.Do(tx); e != api.OK {
		t.Fatalf("P15.2: Do of %d writes, the first of %q: %v", len(tx), tx[0].Key, e)
	}
}

// with: a new disk with a store on which these transactions were done.
func with(t *testing.T, sectors int, l ...[]api.Write) (*sector.Disk, *store.Store, model) {
	t.Helper()
	d := sector.New(sectors)
	s := making(t, d)
	m := model{}
	for _, tx := range l {
		doing(t, s, tx...)
		m = m.after(tx...)
	}
	return d, s, m
}

// told: what a store tells to have, of all its calls.
func told(t *testing.T, s *store.Store) model {
	t.Helper()
	m := model{}
	for _, key := range s.Keys() {
		b, there := s.Get(key)
		if _, twice := m[key]; !there || twice {
			t.Fatalf("P15.2: of the keys is %q: there: %v, twice: %v", key, there, twice)
		}
		m[key] = b
	}
	if s.Size() != m.size() {
		t.Fatalf("P15.2: the size is %d, not %d", s.Size(), m.size())
	}
	if !slices.Equal(s.Keys(), m.keys()) {
		t.Fatalf("P15.2: the keys are %q, not %q", s.Keys(), m.keys())
	}
	return m
}

func holds(t *testing.T, promise string, s *store.Store, want model) {
	t.Helper()
	if got := told(t, s); !got.is(want) {
		t.Fatalf("%s: there is %v, not %v", promise, got, want)
	}
}

// kept: so it is behind an Open, and behind a Crash that takes whatever it can.
func kept(t *testing.T, promise string, d *sector.Disk, want model) {
	t.Helper()
	holds(t, promise+": opened", opening(t, d), want)
	d.Crash(nil)
	holds(t, promise+": crashed", opening(t, d), want)
}

// refuses: Open gives no store, and that error.
func refuses(t *testing.T, promise string, d *sector.Disk, want api.Errno) {
	t.Helper()
	if s, e := store.Open(d); s != nil || e != want {
		t.Fatalf("%s: Open of %d sectors: %v, %v, not %v", promise, d.Len(), s, e, want)
	}
}

// off: a disk whose power is gone.
func off(d *sector.Disk) {
	d.Power(1)
	d.Flush()
}

// image: all that lies on a disk.
func image(t *testing.T, d *sector.Disk) string {
	t.Helper()
	var all strings.Builder
	for i := range d.Len() {
		b, e := d.Read(i)
		if e != api.OK {
			t.Fatal(e)
		}
		all.Write(b)
	}
	return all.String()
}

// records: how many the journal has that the store lies in.
func records(t *testing.T, d *sector.Disk) int {
	t.Helper()
	_, l, e := journal.Open(d)
	if e != api.OK {
		t.Fatal(e)
	}
	return len(l)
}
