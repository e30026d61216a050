package wire_test

import (
	"bytes"
	"slices"
	"testing"

	"paddock/api"
	"paddock/wire"
)

// spoilBytes writes over a list and all the room behind it, as whoever was given it may.
func spoilBytes(b []byte) {
	b = b[:cap(b)]
	for i := range b {
		b[i] = 0xee
	}
}

func spoilEntries(l []api.Entry) {
	l = l[:cap(l)]
	for i := range l {
		l[i] = api.Entry{Since: 99, N: 99, Op: api.Op{Data: "spoilt"}}
	}
}

// roomy: a list that lies in a greater one, with something ahead of it and in the room behind it; and the greater one.
func roomy[T any](l []T, other T) ([]T, []T) {
	all := slices.Concat([]T{other, other}, l, []T{other, other, other})
	return all[2 : 2+len(l)], all
}

// roomyMessage: m with its lists in greater ones; and these.
func roomyMessage(m api.Msg) (api.Msg, [3][]api.Entry) {
	var all [3][]api.Entry
	other := api.Entry{Since: 1, N: 1, Op: write(1, 1, "other")}
	m.State.Log, all[0] = roomy(m.State.Log, other)
	m.Diff.Log, all[1] = roomy(m.Diff.Log, other)
	m.Diff.Whole.Log, all[2] = roomy(m.Diff.Whole.Log, other)
	return m, all
}

// TestWhatIsHandedInStays: messages and states, with the room around their lists, through each call; also of what is no message.
func TestWhatIsHandedInStays(t *testing.T) {
	l := append(ordinary(), crowded(), push(api.Diff{Kind: 2, Whole: longest()}), with(ordinaryOf(api.MInfo), func(m *api.Msg) { m.State = noStates()[3] }))
	for _, one := range l {
		m, all := roomyMessage(one)
		before := [3][]api.Entry{slices.Clone(all[0]), slices.Clone(all[1]), slices.Clone(all[2])}
		wire.Is(m)
		wire.Same(m, m)
		b, _ := wire.Encode(m)
		spoilBytes(b)
		spoilBytes(wire.PutState(nil, m.State))
		spoilBytes(wire.PutState([]byte("ab"), m.Diff.Whole))
		for i := range all {
			if !slices.Equal(all[i], before[i]) {
				t.Errorf("rule 3: a list of %+v became %+v", one, all[i])
			}
		}
		if !alike(m, one) {
			t.Errorf("rule 3: %+v became %+v", one, m)
		}
	}
}

// TestSpareRoomDoesNotCount: what lies behind a message's lists is no part of it.
func TestSpareRoomDoesNotCount(t *testing.T) {
	for _, one := range append(ordinary(), messages()...) {
		m, _ := roomyMessage(one)
		b, e := wire.Encode(m)
		if !wire.Is(m) || !wire.Same(m, one) || e != api.OK || !bytes.Equal(b, bytesOf(one)) {
			t.Errorf("rule 6: the room behind the lists of %+v counts", one)
		}
	}
}

func TestEncodeAnswersNewMemory(t *testing.T) {
	for _, m := range ordinary() {
		first, _ := wire.Encode(m)
		second, _ := wire.Encode(m)
		spoilBytes(second)
		third, _ := wire.Encode(m)
		if !bytes.Equal(first, bytesOf(m)) || !bytes.Equal(third, bytesOf(m)) {
			t.Errorf("rule 3: two answers of Encode(%+v) share memory", m)
		}
	}
}

// TestDecodeAnswersNewMemory: it shares nothing with the bytes, with other answers, nor one list with another.
func TestDecodeAnswersNewMemory(t *testing.T) {
	l := append(ordinary(), push(api.Diff{Kind: 2, Whole: longest()}), push(api.Diff{Whole: ends(longest())}))
	for _, m := range l {
		b, all := roomy(bytesOf(m), 7)
		before := slices.Clone(all)
		first, _ := wire.Decode(b)
		second, _ := wire.Decode(b)
		for _, log := range [][]api.Entry{second.State.Log, second.Diff.Log, second.Diff.Whole.Log} {
			spoilEntries(log)
		}
		if !bytes.Equal(all, before) {
			t.Errorf("rule 3: Decode changed %x", before)
		}
		if spoilBytes(all); !alike(first, m) {
			t.Errorf("rule 3: an answer of Decode became %+v", first)
		}
		checkListsApart(t, first)
	}
}

// checkListsApart: to write over one list of m, and behind it, leaves the others as they are.
func checkListsApart(t *testing.T, m api.Msg) {
	t.Helper()
	lists := [][]api.Entry{m.State.Log, m.Diff.Log, m.Diff.Whole.Log}
	for i := range lists {
		kept := [][]api.Entry{slices.Clone(lists[0]), slices.Clone(lists[1]), slices.Clone(lists[2])}
		spoilEntries(lists[i])
		for k := range lists {
			if k != i && !slices.Equal(lists[k], kept[k]) {
				t.Errorf("rule 3: lists %d and %d of a message share memory", i, k)
			}
		}
		copy(lists[i], kept[i])
	}
}

func TestPutStateAnswersNewMemory(t *testing.T) {
	for _, s := range []api.State{{}, states()[8], noStates()[0]} {
		for _, ahead := range []string{"", "a", "ahead of it"} {
			b, all := roomy([]byte(ahead), 7)
			before := slices.Clone(all)
			first := wire.PutState(b, s)
			want := slices.Clone(first)
			spoilBytes(wire.PutState(b, s))
			if !bytes.Equal(all, before) {
				t.Errorf("rule 3: PutState(%q) changed what was handed in to %x", ahead, all)
			}
			if spoilBytes(all); !bytes.Equal(first, want) {
				t.Errorf("rule 3: PutState(%q): its answer became %x", ahead, first)
			}
		}
	}
}

// TestPutStateBranches: two states behind one beginning, which has room enough for both.
func TestPutStateBranches(t *testing.T) {
	b := append(make([]byte, 0, 4000), "ahead"...)
	one, other := wire.PutState(b, states()[8]), wire.PutState(b, longest())
	if string(one) != "ahead"+string(stateBytes(states()[8])) || string(other) != "ahead"+string(stateBytes(longest())) {
		t.Error("rule 3: two answers of PutState share memory")
	}
}

// TestGetStateAnswersNewMemory: the state and what is behind it; what is behind it beside an error too.
func TestGetStateAnswersNewMemory(t *testing.T) {
	whole := append(stateBytes(states()[8]), "behind it"...)
	wrong := append([]byte{0, 0, 0, 61}, whole[4:]...)
	for _, given := range [][]byte{whole, whole[:len(whole)-9], whole[:20], wrong, {}} {
		b, all := roomy(given, 7)
		before := slices.Clone(all)
		s, rest, e := wire.GetState(b)
		kept, want := twin(api.Msg{State: s}), slices.Clone(rest)
		again, more, _ := wire.GetState(b)
		spoilEntries(again.Log)
		spoilBytes(more)
		if !bytes.Equal(all, before) {
			t.Errorf("rule 3: GetState changed %x (%v)", before, e)
		}
		if spoilBytes(all); !bytes.Equal(rest, want) || !alike(api.Msg{State: s}, kept) {
			t.Errorf("rule 3: an answer of GetState became %+v, %x (%v)", s, rest, e)
		}
	}
}

// TestCallsKeepNothing: refused calls between others turn no answer.
func TestCallsKeepNothing(t *testing.T) {
	for _, m := range ordinary() {
		want := bytesOf(m)
		wire.Decode(want[:len(want)-1])
		wire.Decode(nil)
		wire.GetState(want)
		wire.Encode(crowded())
		wire.PutState(want, noStates()[0])
		b, e := wire.Encode(m)
		got, f := wire.Decode(b)
		if e != api.OK || f != api.OK || !bytes.Equal(b, want) || !alike(got, m) {
			t.Errorf("rule 6: behind refused calls: %x, %+v (%v, %v)", b, got, e, f)
		}
	}
}
