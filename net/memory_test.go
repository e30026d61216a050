package net_test

import (
	"slices"
	"testing"

	"paddock/api"
	"paddock/net"
	"paddock/wire"
)

func other() api.Entry { return api.Entry{Since: 99, N: 99, Op: api.Op{Data: "spoilt"}} }

// spoil writes over the lists of a message and all the room behind them, as whoever was given it may.
func spoil(m api.Msg) {
	for _, l := range [][]api.Entry{m.State.Log, m.Diff.Log, m.Diff.Whole.Log} {
		l = l[:cap(l)]
		for i := range l {
			l[i] = other()
		}
	}
}

// spoilAll: likewise a list of messages.
func spoilAll(l []api.Msg) {
	l = l[:cap(l)]
	for i := range l {
		spoil(l[i])
		l[i] = api.Msg{Kind: 77}
	}
}

// roomy: m with its lists in greater ones, with something ahead of them and in the room behind them; and these.
func roomy(m api.Msg) (api.Msg, [3][]api.Entry) {
	var all [3][]api.Entry
	for i, l := range []*[]api.Entry{&m.State.Log, &m.Diff.Log, &m.Diff.Whole.Log} {
		all[i] = slices.Concat([]api.Entry{other()}, *l, []api.Entry{other(), other()})
		*l = all[i][1 : 1+len(*l)]
	}
	return m, all
}

// bearers: messages that have lists, and one of which the lists are empty, not nil.
func bearers() []api.Msg {
	empty := least()[api.MInfo-1]
	empty.State.Log, empty.Diff.Log, empty.Diff.Whole.Log = []api.Entry{}, []api.Entry{}, []api.Entry{}
	return append(pushes(), empty, greatest()[api.MInfo-1], greatest()[api.MPush-1])
}

// TestWhatIsSentIsNeitherTurnedNorKept: nor is the room around its lists, whatever comes of it.
func TestWhatIsSentIsNeitherTurnedNorKept(t *testing.T) {
	wrong := greatest()[api.MInfo-1]
	wrong.Kind = api.MPush
	for _, one := range append(bearers(), wrong) {
		for _, row := range [][]api.Msg{nil, asks(0, 3), asks(0, api.MaxBag)} {
			b := bagOf(t, row)
			m, all := roomy(one)
			before := [3][]api.Entry{slices.Clone(all[0]), slices.Clone(all[1]), slices.Clone(all[2])}
			left, _, want := turn{kind: toSend, m: one}.onPlain(row)
			if e := b.Send(m); e != want {
				t.Fatalf("P16.1: %v, not %v", e, want)
			}
			for i := range all {
				if !slices.Equal(all[i], before[i]) {
					t.Errorf("rule 3: a list of %+v became %+v", one, all[i])
				}
			}
			spoil(m)
			left = plays(t, b, left, turn{kind: toDouble, i: len(left) - 1})
			holds(t, "rule 3: a message, written into behind Send", b, left)
		}
	}
}

// TestTakeGivesNewMemory: of one that was doubled, too; what is there, and what was taken before, stays as it is.
func TestTakeGivesNewMemory(t *testing.T) {
	for _, m := range bearers() {
		b := bagOf(t, []api.Msg{m})
		for range 3 {
			b.Double(0)
		}
		first, _ := b.Take(1)
		all := b.All()
		second, _ := b.Take(0)
		spoil(first)
		if !wire.Same(second, m) {
			t.Errorf("rule 3: what was taken, written into, made %+v of another one", second)
		}
		holds(t, "rule 3: what was taken, written into", b, []api.Msg{m, m})
		spoil(second)
		for _, x := range all {
			if !wire.Same(x, m) {
				t.Errorf("rule 3: what was taken, written into, made %+v of what All gave", x)
			}
		}
		holds(t, "rule 3: what was taken, written into", b, []api.Msg{m, m})
		third, e := b.Take(1)
		if e != api.OK || !wire.Same(third, m) {
			t.Errorf("rule 3: %+v, %v", third, e)
		}
	}
}

// TestAllGivesNewMemory: its list, and the lists of its messages.
func TestAllGivesNewMemory(t *testing.T) {
	row := slices.Concat(bearers(), bearers())
	b := bagOf(t, row)
	one, two := b.All(), b.All()
	spoilAll(one)
	for i, m := range two {
		if !wire.Same(m, row[i]) {
			t.Errorf("rule 3: what All gave, written into, made %+v of another answer's message", m)
		}
	}
	holds(t, "rule 3: what All gave, written into", b, row)
	for i := range two {
		spoil(two[i])
		for k := i + 1; k < len(two); k++ {
			if !wire.Same(two[k], row[k]) {
				t.Fatalf("rule 3: message %d of All, written into, made %+v of message %d", i, two[k], k)
			}
		}
	}
	_ = append(b.All()[:1], ask(0), ask(1))
	holds(t, "rule 3: what All gave, written behind", b, row)
}

// TestAnEarlierAnswerStays: whatever comes and goes behind it.
func TestAnEarlierAnswerStays(t *testing.T) {
	row := slices.Concat(asks(0, 4), bearers())
	b := bagOf(t, row)
	before := b.All()
	for _, c := range []turn{{kind: toDrop}, {kind: toTake, i: 5}, {kind: toDouble, i: 7}, {kind: toSend, m: ask(9)}, {kind: toDrop, i: 2}, {kind: toDouble}} {
		c.on(b)
		for i, m := range before {
			if !wire.Same(m, row[i]) {
				t.Fatalf("rule 3: %v made %+v of message %d of an earlier answer", c, m, i)
			}
		}
	}
}

// TestBagsGoTheirOwnWays: also where they were told the same.
func TestBagsGoTheirOwnWays(t *testing.T) {
	row := slices.Concat(asks(0, 3), bearers())
	one, two := bagOf(t, row), bagOf(t, row)
	for one.Len() > 0 {
		one.Drop(one.Len() / 2)
	}
	holds(t, "rule 6", two, row)
	two.Double(0)
	holds(t, "rule 6", one, nil)
	for _, m := range row {
		one.Send(m)
	}
	holds(t, "rule 6", one, row)
	holds(t, "rule 6", two, append(slices.Clip(row), ask(0)))
	if net.New().Len() != 0 {
		t.Error("rule 6: a new bag has what others have")
	}
}
