package pglog_test

import (
	"math"
	"math/rand/v2"
	"slices"
	"testing"

	"paddock/api"
	"paddock/objects"
	"paddock/pglog"
)

// list is what a state stands for: all entries that there were, of which the first ones are folded.
type list struct {
	started, n uint32 // n: the number ahead of the first entry
	start      api.Base
	all        []api.Entry
	folded     int
}

func (l list) state() api.State {
	s := api.State{Started: l.started, Base: behind(l.start, l.all[:l.folded]), Tail: api.Entry{N: l.n}, Log: l.all[l.folded:]}
	if l.folded > 0 {
		s.Tail = api.Entry{Since: l.all[l.folded-1].Since, N: l.all[l.folded-1].N}
	}
	return s
}

func randomOp(r *rand.Rand) api.Op {
	o := api.Op{Client: uint8(r.IntN(api.Clients) + 1), Seq: uint32(r.IntN(40) + 1), Kind: uint8(r.IntN(4) + 1), Obj: uint8(r.IntN(3))}
	if o.Kind != api.ODelete {
		o.At = uint8(r.IntN(api.MaxData + 2))
	}
	if o.Kind == api.OWrite || o.Kind == api.OAttr {
		o.At /= 3
		o.Data = full()[r.IntN(api.MaxData+1):]
	}
	return o
}

// walk: one of Add, Cut and Tail, done with the state and with the list.
func walk(r *rand.Rand, s api.State, l list) (api.State, api.Errno, list) {
	at := l.folded + r.IntN(len(l.all)-l.folded+1)
	n := l.n + uint32(at)
	var e api.Errno
	switch r.IntN(9) {
	case 0:
		s, e = pglog.Cut(s, n)
		l.all = slices.Clone(l.all[:at])
	case 1:
		s, e = pglog.Tail(s, n)
		l.folded = at
	default:
		_, head := pglog.Head(s)
		x := api.Entry{Since: min(uint32(len(l.all)/3), api.MaxEpoch), N: head + 1, Op: randomOp(r)}
		if len(l.all) > 0 {
			x.Since = max(x.Since, l.all[len(l.all)-1].Since)
		}
		s, e = pglog.Add(s, x)
		l.all = append(slices.Clone(l.all), x)
		l.folded = max(l.folded, len(l.all)-api.MaxLog)
	}
	return s, e, l
}

func TestBaseAndLogAreOneList(t *testing.T) {
	starts := []list{
		{}, {started: 5, n: 40, start: base()}, {started: api.MaxEpoch, n: math.MaxUint32 - 200, start: base()},
	}
	for seed := range uint64(60) {
		r := rand.New(rand.NewPCG(seed, 7))
		l := starts[seed%3]
		s := l.state()
		for range 120 {
			var e api.Errno
			s, e, l = walk(r, s, l)
			if want := l.state(); e != api.OK || !alike(s, want) || !pglog.Is(s) || !pglog.Same(s, want) {
				t.Fatalf("P7.3: the state is\n%+v, %v, not\n%+v", s, e, want)
			}
			checkList(t, s, l)
		}
	}
}

// checkList: all that s tells is told of the list, wherever base and log part.
func checkList(t *testing.T, s api.State, l list) {
	t.Helper()
	if b := pglog.Fold(s); b != behind(l.start, l.all) {
		t.Fatalf("P7.3: Fold: %+v, not what all %d operations make", b, len(l.all))
	}
	for at := l.folded; at <= len(l.all); at++ {
		n := l.n + uint32(at)
		want := behind(l.start, l.all[:at])
		if b, ok := pglog.Upto(s, n); !ok || b != want {
			t.Fatalf("P7.3: Upto %d: %+v, %v; not %+v", n, b, ok, want)
		}
		cut, _ := pglog.Cut(s, n)
		tail, _ := pglog.Tail(s, n)
		if pglog.Fold(cut) != want || tail.Base != want || pglog.Fold(tail) != pglog.Fold(s) {
			t.Fatalf("P7.3: at %d Cut, Tail and Upto part", n)
		}
		cutFirst, _ := pglog.Tail(cut, n)
		tailFirst, _ := pglog.Cut(tail, n)
		if !alike(cutFirst, tailFirst) {
			t.Fatalf("P7.3: at %d: Cut, then Tail: %+v; Tail, then Cut: %+v", n, cutFirst, tailFirst)
		}
	}
}

// TestWhereBaseAndLogPartIsNotSeen: one list of operations, folded early or late, is told alike by what comes of it.
func TestWhereBaseAndLogPartIsNotSeen(t *testing.T) {
	for k := range uint32(api.MaxLog + 1) {
		s := state(api.MaxLog)
		early, e := pglog.Tail(s, 40+k)
		if e != api.OK {
			t.Fatalf("P7.2: Tail up to %d: %v", 40+k, e)
		}
		for range 2 * api.MaxLog {
			x := next(s)
			x.Op.Seq = x.N
			var f api.Errno
			s, e = pglog.Add(s, x)
			early, f = pglog.Add(early, x)
			a, b := pglog.Head(s)
			c, d := pglog.Head(early)
			if e != api.OK || f != api.OK || a != c || b != d || pglog.Fold(s) != pglog.Fold(early) {
				t.Fatalf("P7.3: folded %d early: %+v, %v; not %+v, %v", k, early, f, s, e)
			}
		}
		if !alike(s, early) {
			t.Errorf("P7.3: folded %d early, with all of that log folded since: %+v, not %+v", k, early, s)
		}
	}
}

// TestDoublesInALogAreDoneOnce: an operation that comes twice has two entries, and is done once, folded or not.
func TestDoublesInALogAreDoneOnce(t *testing.T) {
	twice := write(1, 0, "ab")
	between := api.Op{Client: 2, Seq: 1, Kind: api.OTrunc, Obj: 2, At: 1}
	var s api.State
	for i, o := range []api.Op{twice, between, twice} {
		s, _ = pglog.Add(s, api.Entry{N: uint32(i + 1), Op: o})
	}
	want, _ := objects.All(api.Base{}, []api.Op{twice, between})
	for n := range uint32(4) {
		folded, e := pglog.Tail(s, n)
		if b := pglog.Fold(folded); e != api.OK || b != want || b.Objs[2].Data != "a" {
			t.Errorf("P7.3: %d folded: %+v, %v; not %+v", n, b, e, want)
		}
	}
}
