package pglog_test

import (
	"math"
	"slices"
	"strings"
	"testing"

	"paddock/api"
	"paddock/objects"
	"paddock/pglog"
)

func write(seq uint32, at uint8, data string) api.Op {
	return api.Op{Client: 1, Seq: seq, Kind: api.OWrite, Obj: 2, At: at, Data: data}
}

func full() string { return strings.Repeat("f", api.MaxData) }

func long() string { return full() + "g" }

// alike holds two states against each other without the package's own Same.
func alike(a, b api.State) bool {
	if a.Started != b.Started || a.Base != b.Base || a.Tail != b.Tail || len(a.Log) != len(b.Log) {
		return false
	}
	for i := range a.Log {
		if a.Log[i] != b.Log[i] {
			return false
		}
	}
	return true
}

// twin: the same state with a list of its own.
func twin(s api.State) api.State {
	s.Log = slices.Clone(s.Log)
	return s
}

// bent: a twin of s that bend was let loose on.
func bent(s api.State, bend func(s *api.State)) api.State {
	s = twin(s)
	bend(&s)
	return s
}

// base: one in which something lies at each place that has room for it.
func base() api.Base {
	var b api.Base
	for obj := range b.Objs {
		b.Objs[obj] = api.Object{There: true, Data: full()[obj:], Attr: [api.Attrs]string{"x", full(), ""}}
	}
	b.Objs[4] = api.Object{}
	b.Objs[5] = api.Object{There: true}
	b.Last = [api.Clients]api.Last{{Seq: 3, R: api.Result{Code: api.RBad}}, {Seq: math.MaxUint32, R: api.Result{Code: api.RLong}}, {}}
	return b
}

// ops: one of each kind that writes, with each code that a result can have, behind base; and one that was seen.
func ops() []api.Op {
	return []api.Op{
		{Client: 1, Seq: 4, Kind: api.OWrite, Obj: 4, At: 2, Data: "ab"},
		{Client: 3, Seq: 1, Kind: api.OTrunc, Obj: 4, At: 3},
		{Client: 1, Seq: 4, Kind: api.ODelete, Obj: 4},
		{Client: 1, Seq: 9, Kind: api.OAttr, Obj: 4, At: 1, Data: "v"},
		{Client: 3, Seq: 2, Kind: api.ODelete, Obj: 0},
		{Client: 3, Seq: 3, Kind: api.OTrunc, Obj: 0, At: 1},
		{Client: 1, Seq: 10, Kind: api.OWrite, Obj: 1, At: 16, Data: "z"},
		{Client: 3, Seq: 4, Kind: api.OAttr, Obj: 1, At: 3, Data: "z"},
		{Client: 1, Seq: 11, Kind: api.OWrite, Obj: 0, At: 0, Data: "new"},
	}
}

// entries: so many of ops, numbered from the one behind n on; intervals stay and rise in turns.
func entries(n uint32, length int) []api.Entry {
	var l []api.Entry
	for i, o := range ops()[:length] {
		l = append(l, api.Entry{Since: 7 + uint32(i+1)/2*5, N: n + uint32(i) + 1, Op: o})
	}
	return l
}

// state: one with something in all that it has, a tail of number 40 and so many entries.
func state(length int) api.State {
	return api.State{Started: 9, Base: base(), Tail: api.Entry{Since: 7, N: 40}, Log: entries(40, length)}
}

// opsOf: the operations of these entries.
func opsOf(l []api.Entry) []api.Op {
	var ops []api.Op
	for _, e := range l {
		ops = append(ops, e.Op)
	}
	return ops
}

// behind: the base behind all of l, by layer 6.
func behind(b api.Base, l []api.Entry) api.Base {
	b, _ = objects.All(b, opsOf(l))
	return b
}

// row: a state and what is said of it.
type row struct {
	name string
	s    api.State
}

// good: states at the edges of their form.
func good() []row {
	rows := []row{
		{"the zero state", api.State{}},
		{"an empty log", api.State{Log: []api.Entry{}}},
		{"the greatest Started", api.State{Started: api.MaxEpoch}},
		{"the greatest Since of Tail", api.State{Tail: api.Entry{Since: api.MaxEpoch, N: 3}}},
		{"the greatest N of Tail", api.State{Tail: api.Entry{N: math.MaxUint32}}},
		{"a first entry with nothing folded", api.State{Log: []api.Entry{{N: 1, Op: write(1, 0, "a")}}}},
		{"the greatest N of an entry", api.State{Tail: api.Entry{N: math.MaxUint32 - 1}, Log: []api.Entry{{N: math.MaxUint32, Op: write(1, 0, "a")}}}},
		{"entries at the greatest Since", api.State{Tail: api.Entry{Since: api.MaxEpoch}, Log: []api.Entry{{Since: api.MaxEpoch, N: 1, Op: write(1, 0, "a")}, {Since: api.MaxEpoch, N: 2, Op: write(2, 0, "a")}}}},
		{"Since from the least to the greatest", api.State{Log: []api.Entry{{N: 1, Op: write(1, 0, "a")}, {Since: api.MaxEpoch, N: 2, Op: write(1, 0, "a")}}}},
		{"Started below all, and above", bent(state(3), func(s *api.State) { s.Started = 0 })},
		{"an operation of the greatest length", bent(state(3), func(s *api.State) { s.Log[2].Op = write(9, 255, full()) })},
		{"operations with falling numbers", bent(state(3), func(s *api.State) { s.Log[1].Op, s.Log[2].Op = write(9, 0, ""), write(1, 0, "") })},
		{"strings of the greatest length", bent(state(2), func(s *api.State) {
			for obj := range s.Base.Objs {
				s.Base.Objs[obj] = api.Object{There: true, Data: full(), Attr: [api.Attrs]string{full(), full(), full()}}
			}
		})},
	}
	for length := range api.MaxLog + 1 {
		rows = append(rows, row{"a log of length " + string(rune('0'+length)), state(length)})
	}
	for code := range uint8(api.RBad + 1) {
		rows = append(rows, row{"a result of code " + string('0'+rune(code)), api.State{Base: api.Base{Last: [api.Clients]api.Last{{}, {Seq: 1, R: api.Result{Code: code}}}}}})
	}
	return rows
}

// badNumbers: states that are bad by Started, Tail, or an entry's numbers.
func badNumbers() []row {
	rows := []row{
		{"Started one above", bent(state(3), func(s *api.State) { s.Started = api.MaxEpoch + 1 })},
		{"Started as great as can be", bent(state(0), func(s *api.State) { s.Started = math.MaxUint32 })},
		{"Tail's Since one above", api.State{Tail: api.Entry{Since: api.MaxEpoch + 1}}},
		{"Tail's Since as great as can be", api.State{Tail: api.Entry{Since: math.MaxUint32}}},
		{"one entry too many", state(api.MaxLog + 1)},
		{"three entries too many", state(api.MaxLog + 3)},
		{"a next number behind the greatest one, folded", api.State{Tail: api.Entry{N: math.MaxUint32}, Log: []api.Entry{{N: 0, Op: write(1, 0, "")}}}},
		{"a next number behind the greatest one", api.State{Tail: api.Entry{N: math.MaxUint32 - 1}, Log: []api.Entry{{N: math.MaxUint32, Op: write(1, 0, "")}, {N: 0, Op: write(2, 0, "")}}}},
		{"the number 0 behind the number 0", api.State{Log: []api.Entry{{N: 0, Op: write(1, 0, "")}}}},
	}
	for i := range api.MaxLog {
		for name, bend := range map[string]func(e *api.Entry){
			"a number one too high":      func(e *api.Entry) { e.N++ },
			"a number one too low":       func(e *api.Entry) { e.N-- },
			"the number 0":               func(e *api.Entry) { e.N = 0 },
			"the greatest number":        func(e *api.Entry) { e.N = math.MaxUint32 },
			"an interval one above":      func(e *api.Entry) { e.Since = api.MaxEpoch + 1 },
			"an interval far above":      func(e *api.Entry) { e.Since = math.MaxUint32 },
			"an interval that goes back": func(e *api.Entry) { e.Since = []uint32{6, 6, 11, 11, 16, 16}[i] },
		} {
			rows = append(rows, row{name + " at entry " + string(rune('0'+i)), bent(state(api.MaxLog), func(s *api.State) { bend(&s.Log[i]) })})
		}
		rows = append(rows, row{"a gap behind entry " + string(rune('0'+i)), bent(state(api.MaxLog), func(s *api.State) {
			s.Log = slices.Delete(s.Log, i, i+1)
			s.Log = append(s.Log, api.Entry{Since: 60, N: 47, Op: write(99, 0, "")})
		})})
	}
	return rows
}

// badOps: what is no operation that writes.
func badOps() []api.Op {
	return []api.Op{
		{}, {Client: 1, Seq: 20, Kind: api.ORead, Obj: 2},
		{Client: 0, Seq: 20, Kind: api.ODelete}, {Client: api.Clients + 1, Seq: 20, Kind: api.ODelete},
		{Client: 1, Seq: 0, Kind: api.ODelete}, {Client: 1, Seq: 20, Kind: 0}, {Client: 1, Seq: 20, Kind: api.ORead + 1},
		{Client: 1, Seq: 20, Kind: api.ODelete, Obj: api.Objects}, {Client: 1, Seq: 20, Kind: api.ODelete, At: 1}, {Client: 1, Seq: 20, Kind: api.ODelete, Data: "a"},
		{Client: 1, Seq: 20, Kind: api.OTrunc, Data: "a"}, write(20, 0, long()), {Client: 1, Seq: 20, Kind: api.OAttr, Data: long()},
	}
}

// badParts: states that are bad by an operation or by something of Base.
func badParts() []row {
	var rows []row
	add := func(name string, bend func(s *api.State)) {
		rows = append(rows, row{name, bent(state(api.MaxLog), bend)})
	}
	for _, o := range badOps() {
		for _, i := range []int{0, 2, api.MaxLog - 1} {
			add("an entry that doesn't write", func(s *api.State) { s.Log[i].Op = o })
		}
	}
	for _, o := range []api.Op{write(1, 0, "a"), {Client: 1}, {Seq: 1}, {Kind: 1}, {Obj: 1}, {At: 1}, {Data: "a"}} {
		add("Tail with an Op", func(s *api.State) { s.Tail.Op = o })
		rows = append(rows, row{"Tail with an Op, no log", api.State{Tail: api.Entry{Op: o}}})
	}
	for obj := range api.Objects {
		add("bytes too long", func(s *api.State) { s.Base.Objs[obj] = api.Object{There: true, Data: long()} })
		add("bytes far too long", func(s *api.State) { s.Base.Objs[obj] = api.Object{There: true, Data: strings.Repeat("a", 256)} })
		add("bytes of what isn't there", func(s *api.State) { s.Base.Objs[obj] = api.Object{Data: "a"} })
		add("a nought of what isn't there", func(s *api.State) { s.Base.Objs[obj] = api.Object{Data: "\x00"} })
		for key := range api.Attrs {
			add("an attribute too long", func(s *api.State) { s.Base.Objs[obj].There = true; s.Base.Objs[obj].Attr[key] = long() })
			add("an attribute of what isn't there", func(s *api.State) { s.Base.Objs[obj] = api.Object{}; s.Base.Objs[obj].Attr[key] = "a" })
		}
	}
	for c := range api.Clients {
		for _, l := range []api.Last{
			{Seq: 1, R: api.Result{Data: "a"}}, {Seq: 1, R: api.Result{Code: api.RBad, Data: long()}}, {Seq: 1, R: api.Result{Data: "\x00"}},
			{Seq: 1, R: api.Result{Code: api.RBad + 1}}, {Seq: 1, R: api.Result{Code: 255}}, {Seq: math.MaxUint32, R: api.Result{Code: api.RBad + 1}},
			{R: api.Result{Code: api.RNone}}, {R: api.Result{Code: api.RBad}}, {R: api.Result{Data: "a"}},
		} {
			add("a last one that can't be", func(s *api.State) { s.Base.Last[c] = l })
		}
	}
	return rows
}

func bad() []row { return append(badNumbers(), badParts()...) }

func TestIs(t *testing.T) {
	for _, c := range good() {
		if !pglog.Is(c.s) {
			t.Errorf("P7.1: %s: Is(%+v): false", c.name, c.s)
		}
	}
	for _, c := range bad() {
		if pglog.Is(c.s) {
			t.Errorf("P7.1: %s: Is(%+v): true", c.name, c.s)
		}
	}
}

// TestIsOfALogOfAnyLength: a list of many entries is none, whatever they are, though each of them alone could come next.
func TestIsOfALogOfAnyLength(t *testing.T) {
	var s api.State
	for n := range uint32(1000) {
		if want := len(s.Log) <= api.MaxLog; pglog.Is(s) != want {
			t.Fatalf("P7.1: Is of %d entries: %v", len(s.Log), !want)
		}
		s.Log = append(s.Log, api.Entry{N: n + 1, Op: write(n+1, 0, "a")})
	}
}

func TestHead(t *testing.T) {
	for _, c := range good() {
		since, n := c.s.Tail.Since, c.s.Tail.N
		if l := len(c.s.Log); l > 0 {
			since, n = c.s.Log[l-1].Since, c.s.Log[l-1].N
		}
		if a, b := pglog.Head(c.s); a != since || b != n {
			t.Errorf("P7.1: %s: Head: %d, %d, not %d, %d", c.name, a, b, since, n)
		}
	}
	for length, want := range [][2]uint32{{7, 40}, {7, 41}, {12, 42}, {12, 43}, {17, 44}, {17, 45}, {22, 46}} {
		if a, b := pglog.Head(state(length)); [2]uint32{a, b} != want {
			t.Errorf("P7.1: Head of %d entries: %d, %d, not %v", length, a, b, want)
		}
	}
}

// TestWhatIsNoState: each call tells it, and nothing of what lies there.
func TestWhatIsNoState(t *testing.T) {
	for _, c := range bad() {
		before := twin(c.s)
		if a, b := pglog.Head(c.s); a != 0 || b != 0 {
			t.Errorf("P7.1: %s: Head: %d, %d", c.name, a, b)
		}
		if b := pglog.Fold(c.s); b != (api.Base{}) {
			t.Errorf("P7.2: %s: Fold: %+v", c.name, b)
		}
		numbers := []uint32{0, c.s.Tail.N - 1, c.s.Tail.N, c.s.Tail.N + 1, c.s.Tail.N + 3, c.s.Tail.N + 6, c.s.Tail.N + 7, 99, math.MaxUint32}
		for _, e := range c.s.Log {
			numbers = append(numbers, e.N, e.N+1)
		}
		for _, n := range numbers {
			checkNoState(t, c, n)
		}
		if !alike(c.s, before) {
			t.Errorf("rule 3: %s: the state that was handed in is another one", c.name)
		}
	}
}

func checkNoState(t *testing.T, c row, n uint32) {
	t.Helper()
	if b, ok := pglog.Upto(c.s, n); ok || b != (api.Base{}) {
		t.Errorf("P7.2: %s: Upto %d: %+v, %v", c.name, n, b, ok)
	}
	if s, e := pglog.Cut(c.s, n); e != api.ErrForm || !alike(s, api.State{}) {
		t.Errorf("P7.2: %s: Cut at %d: %+v, %v", c.name, n, s, e)
	}
	if s, e := pglog.Tail(c.s, n); e != api.ErrForm || !alike(s, api.State{}) {
		t.Errorf("P7.2: %s: Tail up to %d: %+v, %v", c.name, n, s, e)
	}
	if x, ok := pglog.Find(c.s, n); ok || x != (api.Entry{}) {
		t.Errorf("P7.2: %s: Find %d: %+v, %v", c.name, n, x, ok)
	}
	for _, since := range []uint32{0, 22, api.MaxEpoch} {
		if s, e := pglog.Add(c.s, api.Entry{Since: since, N: n, Op: write(50, 0, "a")}); e != api.ErrForm || !alike(s, api.State{}) {
			t.Errorf("P7.2: %s: Add of %d: %+v, %v", c.name, n, s, e)
		}
	}
}
