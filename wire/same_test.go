package wire_test

import (
	"reflect"
	"testing"

	"paddock/api"
	"paddock/wire"
)

// alike holds two messages against each other without the package's own Same.
func alike(a, b api.Msg) bool { return reflect.DeepEqual(plain(a), plain(b)) }

// checkSame: Same tells want of a and b, either way round.
func checkSame(t *testing.T, name string, a, b api.Msg, want bool) {
	t.Helper()
	if wire.Same(a, b) != want || wire.Same(b, a) != want {
		t.Errorf("P12.3: %s: Same isn't %v of %+v and %+v", name, want, a, b)
	}
}

// crowded: no message: one with something in all that there is.
func crowded() api.Msg {
	s := states()[8]
	m := api.Msg{Kind: 77, From: 200, To: 201, Epoch: 99, B: at(1, 9), Acc: at(2, 8), Has: true, Inc: api.Inc{Kind: 9, Osd: 9, N: -9}, Group: 9, State: s, Entry: s.Log[1], N: 9, Op: write(9, 9, long()), R: api.Result{Code: 9, Data: long()}}
	m.Diff = api.Diff{Kind: -9, From: 9, Log: entries(99, 5, 8, "a"), Whole: s}
	m.State.Tail.Op, m.State.Base.Last[0].R.Data = write(1, 1, "t"), "l"
	return m
}

func TestSameOfAll(t *testing.T) {
	all := append(ordinary(), messages()...)
	for _, m := range append(all, api.Msg{}, crowded()) {
		checkSame(t, "itself", m, m, true)
		checkSame(t, "a twin", m, twin(m), true)
	}
	for i := range all {
		for _, k := range []int{i - 1, i - 7, i - 100} {
			if k >= 0 {
				checkSame(t, "another one", all[i], all[k], alike(all[i], all[k]))
			}
		}
	}
	for i, m := range ordinary() {
		for k, x := range ordinary() {
			checkSame(t, "of two kinds", m, x, i == k)
		}
	}
}

// TestSameSeesEachThing, of messages and of what is none.
func TestSameSeesEachThing(t *testing.T) {
	for _, m := range append(ordinary(), api.Msg{}, crowded()) {
		x := twin(m)
		for _, l := range leaves(&x) {
			back := l.nudge()
			checkSame(t, l.path, m, x, false)
			back()
			checkSame(t, l.path+", as it was", m, x, true)
		}
	}
}

// TestSameSeesOrder: the same entries, in another order or as others' lists.
func TestSameSeesOrder(t *testing.T) {
	one := crowded()
	checkSame(t, "State's Log turned", one, with(one, func(m *api.Msg) { m.State.Log[0], m.State.Log[1] = m.State.Log[1], m.State.Log[0] }), false)
	checkSame(t, "Diff's Log turned", one, with(one, func(m *api.Msg) { m.Diff.Log[0], m.Diff.Log[1] = m.Diff.Log[1], m.Diff.Log[0] }), false)
	checkSame(t, "Diff's Log cut", one, with(one, func(m *api.Msg) { m.Diff.Log = m.Diff.Log[:7] }), false)
	checkSame(t, "a log here, a log there", api.Msg{State: api.State{Log: one.Diff.Log}}, api.Msg{Diff: api.Diff{Log: one.Diff.Log}}, false)
	checkSame(t, "a state here, a state there", api.Msg{State: one.State}, api.Msg{Diff: api.Diff{Whole: one.State}}, false)
}

func TestSameTakesNilAndEmptyAsOne(t *testing.T) {
	empty := api.Msg{State: api.State{Log: []api.Entry{}}, Diff: api.Diff{Log: make([]api.Entry, 0, 4), Whole: api.State{Log: []api.Entry{}}}}
	checkSame(t, "nil and empty", empty, api.Msg{}, true)
	for _, m := range ordinary() {
		x := with(m, func(m *api.Msg) {
			m.State.Log, m.Diff.Log, m.Diff.Whole.Log = append([]api.Entry{}, m.State.Log...), append([]api.Entry{}, m.Diff.Log...), append([]api.Entry{}, m.Diff.Whole.Log...)
		})
		checkSame(t, "nil and empty", m, x, true)
	}
}
