package objects_test

import (
	"slices"
	"testing"

	"paddock/api"
	"paddock/objects"
)

// oncers: operations with each code, on a base with object 2.
func oncers() []struct {
	o    api.Op
	code uint8
} {
	return []struct {
		o    api.Op
		code uint8
	}{
		{write(5, 1, "xy"), api.RDone}, {trunc(5, 1), api.RDone}, {attr(5, 1, "x"), api.RDone}, {remove(5), api.RDone},
		{write(5, 16, "x"), api.RLong}, {trunc(5, 17), api.RLong}, {attr(5, 3, "x"), api.RBad},
		{on(0, trunc(5, 17)), api.RNone}, {on(0, attr(5, 2, "x")), api.RNone}, {on(0, remove(5)), api.RNone},
	}
}

func onceBase() api.Base {
	b := having(there("abc", "v"))
	b.Objs[0] = api.Object{}
	return b
}

func TestWhatIsDoneTwiceInARowIsDoneOnce(t *testing.T) {
	for _, c := range oncers() {
		once, first := objects.Do(onceBase(), c.o)
		twice, second := objects.Do(once, c.o)
		if twice != once || first != (api.Result{Code: c.code}) || second != first {
			t.Errorf("P6.4: %+v: %#v, %+v; once more %#v, %+v", c.o, once, first, twice, second)
		}
		if r, seen := objects.Seen(once, c.o); !seen || r != first {
			t.Errorf("P6.4: Seen behind %+v: %+v, %v", c.o, r, seen)
		}
	}
}

func TestWhatIsDoneTwiceWithOthersBetweenIsDoneOnce(t *testing.T) {
	others := []api.Op{
		of(2, write(9, 3, "other")), of(2, remove(10)), of(3, on(0, write(10, 2, "o"))), of(3, write(11, 0, "o")), of(2, on(0, trunc(11, 1))), of(3, attr(12, 1, "o")),
	}
	for _, c := range oncers() {
		b, first := objects.Do(onceBase(), c.o)
		for _, other := range others {
			next, r := objects.Do(b, other)
			if r != (api.Result{}) {
				t.Fatalf("P6.2: Do(%#v, %+v): %+v", b, other, r)
			}
			b = next
			if twice, second := objects.Do(b, c.o); twice != b || second != first {
				t.Errorf("P6.4: %+v once more behind %+v: %#v, %+v; not %#v, %+v", c.o, other, twice, second, b, first)
			}
		}
	}
}

// TestANumberIsOneOperation: what a client asks by a number that was done is not done, whatever else it says.
func TestANumberIsOneOperation(t *testing.T) {
	for _, c := range oncers() {
		b, first := objects.Do(onceBase(), c.o)
		for _, o := range []api.Op{on(4, write(5, 0, "new")), on(1, remove(5)), on(3, attr(5, 2, "new")), attr(5, 9, "new"), write(5, 255, "")} {
			if next, r := objects.Do(b, o); next != b || r != first {
				t.Errorf("P6.4: %+v behind %+v: %#v, %+v; not %#v, %+v", o, c.o, next, r, b, first)
			}
		}
	}
}

func TestAnEarlierOneIsNotDoneAnyMore(t *testing.T) {
	for _, c := range oncers() {
		b, _ := objects.Do(onceBase(), c.o)
		for _, o := range []api.Op{write(4, 0, "late"), remove(1), attr(4, 0, "late"), trunc(4, 0), on(0, write(1, 0, "late"))} {
			if next, r := objects.Do(b, o); next != b || r != (api.Result{Code: api.RBad}) {
				t.Errorf("P6.4: %+v behind %+v: %#v, %+v", o, c.o, next, r)
			}
		}
	}
}

func TestARowWithDoublesIsTheRow(t *testing.T) {
	for seed := range uint64(10) {
		l := row(120, seed)
		b, results := objects.All(api.Base{}, l)
		again, refused := objects.All(b, l)
		if again != b {
			t.Fatalf("P6.4: the row once more made %#v of %#v", again, b)
		}
		last := map[uint8]uint32{}
		for _, o := range l {
			last[o.Client] = o.Seq
		}
		var doubled []api.Op
		var want []api.Result
		for i, o := range l {
			wanted := api.Result{Code: api.RBad}
			if o.Seq == last[o.Client] {
				wanted = results[i]
			}
			if refused[i] != wanted {
				t.Fatalf("P6.4: %+v once more: %+v, not %+v", o, refused[i], wanted)
			}
			doubled, want = append(doubled, o, o), append(want, results[i], results[i])
		}
		if twice, got := objects.All(api.Base{}, doubled); twice != b || !slices.Equal(got, want) {
			t.Fatalf("P6.4: each twice: %#v, not %#v", twice, b)
		}
	}
}
