package merge_test

import (
	"math"
	"slices"
	"strings"
	"testing"

	"paddock/api"
	"paddock/objects"
	"paddock/pglog"
)

func write(seq uint32, at uint8, data string) api.Op {
	return api.Op{Client: 1, Seq: seq, Kind: api.OWrite, Obj: 2, At: at, Data: data}
}

func full() string { return strings.Repeat("f", api.MaxData) }

// alike holds two states against each other without layer 7's Same.
func alike(a, b api.State) bool {
	return a.Started == b.Started && a.Base == b.Base && a.Tail == b.Tail && slices.Equal(a.Log, b.Log)
}

func alikeDiffs(a, b api.Diff) bool {
	return a.Kind == b.Kind && a.From == b.From && slices.Equal(a.Log, b.Log) && alike(a.Whole, b.Whole)
}

// twin: the same state with a list of its own.
func twin(s api.State) api.State {
	s.Log = slices.Clone(s.Log)
	return s
}

func twinDiff(d api.Diff) api.Diff {
	d.Log = slices.Clone(d.Log)
	d.Whole = twin(d.Whole)
	return d
}

// bent: a twin of s that bend was let loose on.
func bent(s api.State, bend func(s *api.State)) api.State {
	s = twin(s)
	bend(&s)
	return s
}

func started(s api.State, epoch uint32) api.State {
	return bent(s, func(s *api.State) { s.Started = epoch })
}

// base: objects that are there, two of them with nothing in them, and two that aren't; clients with and without a last one.
func base() api.Base {
	return api.Base{
		Objs: [api.Objects]api.Object{
			{There: true, Data: "ab", Attr: [api.Attrs]string{"x", full(), ""}}, {There: true, Data: full()}, {}, {There: true}, {}, {There: true},
		},
		Last: [api.Clients]api.Last{{Seq: 3, R: api.Result{Code: api.RBad}}, {Seq: 7}, {}},
	}
}

// baseBends: each makes another base, which still has its form, by one word alone. (Object 1 is there in all pieces of line.)
func baseBends() []func(b *api.Base) {
	l := []func(b *api.Base){
		func(b *api.Base) { b.Last[0].R.Code = api.RLong }, func(b *api.Base) { b.Last[1].R.Code = api.RNone },
	}
	for obj := range api.Objects {
		l = append(l, func(b *api.Base) {
			if x := &b.Objs[obj]; x.There {
				x.Data = "other"
			} else {
				x.There = true
			}
		})
	}
	for key := range api.Attrs {
		l = append(l, func(b *api.Base) { b.Objs[1].Attr[key] = "other" })
	}
	for c := range api.Clients {
		l = append(l, func(b *api.Base) { b.Last[c].Seq++ })
	}
	return l
}

// line: fourteen entries that can come behind number 40 of interval 7 and base; intervals stay and rise in turns; most change objects, one is refused, one was seen.
func line() []api.Entry {
	var l []api.Entry
	for i, o := range []api.Op{
		{Client: 1, Seq: 4, Kind: api.OWrite, Obj: 4, At: 2, Data: "ab"},
		{Client: 3, Seq: 1, Kind: api.OTrunc, Obj: 4, At: 3},
		{Client: 1, Seq: 9, Kind: api.OAttr, Obj: 4, At: 1, Data: "v"},
		{Client: 3, Seq: 2, Kind: api.ODelete, Obj: 0},
		{Client: 3, Seq: 3, Kind: api.OTrunc, Obj: 0, At: 1},
		{Client: 2, Seq: 8, Kind: api.OWrite, Obj: 0, Data: "new"},
		{Client: 1, Seq: 9, Kind: api.OAttr, Obj: 4, At: 1, Data: "w"},
		write(10, 0, "a"), write(11, 1, "b"), write(12, 2, "c"), write(13, 3, "d"), write(14, 4, "e"), write(15, 5, "f"), write(16, 6, "g"),
	} {
		l = append(l, api.Entry{Since: 7 + uint32(i+1)/2*5, N: 41 + uint32(i), Op: o})
	}
	return l
}

// parted: line, with all entries from place at on bent.
func parted(at int, bend func(e *api.Entry)) []api.Entry {
	l := line()
	for i := at; i < len(l); i++ {
		bend(&l[i])
	}
	return l
}

func later(e *api.Entry) { e.Since++ }

func retold(e *api.Entry) { e.Op.Obj++ }

// place: where a list of entries stands behind its first k, of which tail lies ahead.
func place(tail api.Entry, l []api.Entry, k int) api.Entry {
	if k == 0 {
		return tail
	}
	return api.Entry{Since: l[k-1].Since, N: l[k-1].N}
}

// behind: the base behind all of l, by layer 6.
func behind(b api.Base, l []api.Entry) api.Base {
	for _, e := range l {
		b, _ = objects.Do(b, e.Op)
	}
	return b
}

// piece: the state that has l up to place end, of which the first ones are folded.
func piece(l []api.Entry, folded, end int) api.State {
	return api.State{Started: 9, Base: behind(base(), l[:folded]), Tail: place(api.Entry{Since: 7, N: 40}, l, folded), Log: slices.Clone(l[folded:end])}
}

// state: a piece of line, so long that it has so many entries behind a tail of number 40.
func state(length int) api.State { return piece(line(), 0, length) }

// row: a state and what is said of it.
type row struct {
	name string
	s    api.State
}

// bad: what is no state, by each of its parts.
func bad() []row {
	return []row{
		{"Started one above", started(state(3), api.MaxEpoch+1)},
		{"Started as great as can be", started(state(0), math.MaxUint32)},
		{"nothing but Started", api.State{Started: api.MaxEpoch + 1}},
		{"Tail's Since one above", bent(state(0), func(s *api.State) { s.Tail.Since = api.MaxEpoch + 1 })},
		{"Tail with an Op", bent(state(3), func(s *api.State) { s.Tail.Op = write(1, 0, "a") })},
		{"one entry too many", state(api.MaxLog + 1)},
		{"a number left out", bent(state(4), func(s *api.State) { s.Log = slices.Delete(s.Log, 1, 2) })},
		{"a number that goes back", bent(state(4), func(s *api.State) { s.Log[3].N-- })},
		{"an interval that goes back", bent(state(4), func(s *api.State) { s.Log[3].Since = 11 })},
		{"an interval one above", bent(state(4), func(s *api.State) { s.Log[3].Since = api.MaxEpoch + 1 })},
		{"an entry that doesn't write", bent(state(4), func(s *api.State) { s.Log[3].Op = api.Op{Client: 1, Seq: 20, Kind: api.ORead} })},
		{"bytes too long", bent(state(4), func(s *api.State) { s.Base.Objs[0].Data = full() + "g" })},
		{"an attribute of what isn't there", bent(state(4), func(s *api.State) { s.Base.Objs[2].Attr[1] = "a" })},
		{"a result with bytes", bent(state(4), func(s *api.State) { s.Base.Last[0].R.Data = "a" })},
		{"a last one of Seq 0 with a code", bent(state(4), func(s *api.State) { s.Base.Last[2].R.Code = api.RNone })},
	}
}

// pool: states that have much of one list, or little, or nothing; of lists that part early, late, by intervals, by operations, by both; and the edges.
func pool() []api.State {
	lines := [][]api.Entry{line()}
	for _, at := range []int{0, 2, 5, 8} {
		lines = append(lines, parted(at, later), parted(at, retold), parted(at, func(e *api.Entry) { later(e); retold(e) }))
	}
	l := []api.State{
		{}, {Log: []api.Entry{}}, {Started: api.MaxEpoch}, {Tail: api.Entry{Since: 7, N: 40}}, {Base: base()},
		{Tail: api.Entry{N: math.MaxUint32}}, {Tail: api.Entry{N: math.MaxUint32 - 1}},
		{Tail: api.Entry{N: math.MaxUint32 - 1}, Log: []api.Entry{{N: math.MaxUint32, Op: write(1, 0, "a")}}},
		{Tail: api.Entry{N: math.MaxUint32 - 1}, Log: []api.Entry{{N: math.MaxUint32, Op: write(1, 0, "b")}}},
		{Log: []api.Entry{{N: 1, Op: write(1, 0, "a")}}},
		{Log: []api.Entry{{N: 1, Op: write(1, 0, "a")}, {Since: api.MaxEpoch, N: 2, Op: write(2, 0, "b")}}},
		started(state(3), 0), started(state(3), api.MaxEpoch),
		bent(state(3), func(s *api.State) { s.Tail.Since-- }),
	}
	for _, entries := range lines {
		for _, folded := range []int{0, 2, 5, 6} {
			for _, length := range []int{0, 1, 3, api.MaxLog} {
				l = append(l, piece(entries, folded, folded+length))
			}
		}
	}
	for _, bend := range baseBends() {
		l = append(l, bent(state(3), func(s *api.State) { bend(&s.Base) }))
	}
	return l
}

// TestStates holds what the other tests lean on: which of these are states.
func TestStates(t *testing.T) {
	for i, s := range pool() {
		if !pglog.Is(s) {
			t.Errorf("state %d of the pool is none: %+v", i, s)
		}
	}
	for _, c := range bad() {
		if pglog.Is(c.s) {
			t.Errorf("%s: is a state", c.name)
		}
	}
}
