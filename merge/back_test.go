package merge_test

import (
	"math/rand/v2"
	"slices"
	"testing"

	"paddock/api"
	"paddock/merge"
	"paddock/pglog"
)

func checkBack(t *testing.T, have, want api.State) {
	t.Helper()
	keptHave, keptWant := twin(have), twin(want)
	d := merge.Make(have, want)
	keptDiff := twinDiff(d)
	got, e := merge.Apply(have, d)
	if e != api.OK || !alike(got, want) {
		t.Fatalf("P8.4: of %+v\nand %+v: %+v, %v", have, want, got, e)
	}
	if !alike(have, keptHave) || !alike(want, keptWant) || !alikeDiffs(d, keptDiff) {
		t.Fatalf("rule 3: of %+v\nand %+v: what was handed in is another one", keptHave, keptWant)
	}
	if again := merge.Make(got, want); !alikeDiffs(again, api.Diff{Whole: ends(want)}) {
		t.Fatalf("P8.4: of %+v\nand %+v: what came of it lacks %+v", have, want, again)
	}
}

func TestApplyOfMakeIsTheOtherOne(t *testing.T) {
	l := pool()
	for _, have := range l {
		for _, want := range l {
			checkBack(t, have, want)
		}
	}
}

// TestOneEntryMore is the chapter's example.
func TestOneEntryMore(t *testing.T) {
	e := api.Entry{Since: 2, N: 1, Op: write(1, 0, "a")}
	one, _ := pglog.Add(api.State{}, e)
	d := merge.Make(api.State{}, one)
	if !alikeDiffs(d, api.Diff{Kind: 1, Log: []api.Entry{e}}) || merge.Bytes(d) != 1 || !merge.Extends(api.State{}, one) {
		t.Errorf("P8.1: one entry more: %+v", d)
	}
	checkBack(t, api.State{}, one)
}

// randomOp: one that writes, of few objects and numbers, so that some are seen and some refused.
func randomOp(r *rand.Rand) api.Op {
	o := api.Op{Client: uint8(r.IntN(api.Clients) + 1), Seq: uint32(r.IntN(40) + 1), Kind: uint8(r.IntN(4) + 1), Obj: uint8(r.IntN(3))}
	switch o.Kind {
	case api.OTrunc:
		o.At = uint8(r.IntN(api.MaxData + 2))
	case api.OWrite, api.OAttr:
		o.At = uint8(r.IntN(6))
		o.Data = full()[r.IntN(api.MaxData+1):]
	}
	return o
}

// wandered: s behind some random calls of layer 7.
func wandered(r *rand.Rand, s api.State) api.State {
	for range r.IntN(9) {
		since, n := pglog.Head(s)
		at := s.Tail.N + uint32(r.IntN(len(s.Log)+1))
		e := api.OK
		switch r.IntN(8) {
		case 0:
			s, e = pglog.Cut(s, at)
		case 1:
			s, e = pglog.Tail(s, at)
		case 2:
			s.Started = uint32(r.IntN(api.MaxEpoch + 1))
		default:
			s, e = pglog.Add(s, api.Entry{Since: min(since+uint32(r.IntN(2)), api.MaxEpoch), N: n + 1, Op: randomOp(r)})
		}
		if e != api.OK {
			panic(e)
		}
	}
	return s
}

// TestApplyOfMakeOfRandomStates: states that were one once, and went on by themselves.
func TestApplyOfMakeOfRandomStates(t *testing.T) {
	kinds := [3]int{}
	for seed := range uint64(4000) {
		r := rand.New(rand.NewPCG(seed, 8))
		s := wandered(r, wandered(r, api.State{}))
		have, want := wandered(r, s), wandered(r, s)
		checkBack(t, have, want)
		checkBack(t, want, have)
		d := merge.Make(have, want)
		if wanted := expected(have, want); !alikeDiffs(d, wanted) {
			t.Fatalf("P8.1: of %+v\nand %+v: %+v, not %+v", have, want, d, wanted)
		}
		if merge.Extends(have, want) && d.Kind == 1 && !slices.Equal(d.Log, want.Log[len(want.Log)-len(d.Log):]) {
			t.Fatalf("P8.3: of %+v\nand %+v: %+v", have, want, d)
		}
		kinds[d.Kind]++
	}
	if slices.Min(kinds[:]) < 50 {
		t.Errorf("too few of a kind: %v", kinds)
	}
}

// TestOneByOne: each step of a state that goes on is one entry, and the steps together are as good as one.
func TestOneByOne(t *testing.T) {
	r := rand.New(rand.NewPCG(4, 8))
	var first, s api.State
	follower := first
	for n := range uint32(100) {
		more, e := pglog.Add(s, api.Entry{Since: n / 2, N: n + 1, Op: randomOp(r)})
		if e != api.OK {
			t.Fatal(e)
		}
		d := merge.Make(s, more)
		if d.Kind != 1 || len(d.Log) != 1 || d.From != n || merge.Bytes(d) != 1 || !merge.Extends(s, more) {
			t.Fatalf("P8.1: entry %d more: %+v", n+1, d)
		}
		if follower, e = merge.Apply(follower, d); e != api.OK || !alike(follower, more) {
			t.Fatalf("P8.2: entry %d more: %+v, %v; not %+v", n+1, follower, e, more)
		}
		checkBack(t, first, more)
		s = more
	}
}
