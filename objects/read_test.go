package objects_test

import (
	"math"
	"slices"
	"testing"

	"paddock/api"
	"paddock/objects"
)

func TestReadTellsBytesAndAttributes(t *testing.T) {
	for _, c := range []struct {
		x    api.Object
		want api.Result
	}{
		{api.Object{}, api.Result{Code: api.RNone}},
		{there(""), api.Result{}},
		{there("abc"), api.Result{Data: "abc"}},
		{there("\x00\xff\n"), api.Result{Data: "\x00\xff\n"}},
		{there(full()), api.Result{Data: full()}},
		{there("abc", "v"), api.Result{Data: "abc;0=v"}},
		{there("abc", "", "v"), api.Result{Data: "abc;1=v"}},
		{there("abc", "", "", "v"), api.Result{Data: "abc;2=v"}},
		{there("", "", "", "v"), api.Result{Data: ";2=v"}},
		{there("abc", "x", "", "z"), api.Result{Data: "abc;0=x;2=z"}},
		{there("abc", "x", "y", "z"), api.Result{Data: "abc;0=x;1=y;2=z"}},
		{there("a;0=b", ";", "=", "\x00"), api.Result{Data: "a;0=b;0=;;1==;2=\x00"}},
		{there(full(), full(), full(), full()), api.Result{Data: full() + ";0=" + full() + ";1=" + full() + ";2=" + full()}},
		{api.Object{Data: "gone", Attr: [api.Attrs]string{"v"}}, api.Result{Code: api.RNone}},
	} {
		b := having(c.x)
		if r := objects.Read(b, read(1)); r != c.want {
			t.Errorf("P6.3: Read of %#v: %#v, not %#v", c.x, r, c.want)
		}
		if b != having(c.x) {
			t.Errorf("rule 3: Read made %#v of the base that was handed in", b)
		}
	}
}

func TestReadIsOfEachObjectAndWhoeverAsks(t *testing.T) {
	var b api.Base
	for obj := range b.Objs {
		b.Objs[obj] = there(string(rune('a' + obj)))
	}
	b.Last[0] = api.Last{Seq: 9, R: api.Result{Code: api.RLong}}
	for obj := range uint8(api.Objects) {
		for client := uint8(1); client <= api.Clients; client++ {
			for _, seq := range []uint32{1, 8, 9, 10, math.MaxUint32} {
				r := objects.Read(b, of(client, on(obj, read(seq))))
				if r != (api.Result{Data: string(rune('a' + obj))}) {
					t.Errorf("P6.3: Read %d of client %d on object %d: %#v", seq, client, obj, r)
				}
			}
		}
	}
}

func TestReadOfWhatIsNoRead(t *testing.T) {
	for _, b := range []api.Base{{}, having(there("abc", "v"))} {
		for _, o := range append(noOps(), write(1, 0, "a"), trunc(1, 1), attr(1, 0, "a"), remove(1), of(2, remove(8)), attr(1, 9, "a")) {
			if r := objects.Read(b, o); r != (api.Result{Code: api.RBad}) {
				t.Errorf("P6.3: Read(%#v, %+v): %#v", b, o, r)
			}
		}
	}
}

func TestAllIsOneBehindTheOther(t *testing.T) {
	l := []api.Op{
		write(1, 1, "ab"), of(2, write(1, 0, "x")), attr(2, 0, "v"), attr(2, 0, "w"), attr(1, 0, "w"), read(3), {},
		attr(3, api.Attrs, "v"), write(4, 15, "ab"), of(2, on(5, remove(2))), of(3, trunc(1, 2)),
	}
	want := []uint8{
		api.RDone, api.RDone, api.RDone, api.RDone, api.RBad, api.RBad, api.RBad,
		api.RBad, api.RLong, api.RNone, api.RDone,
	}
	b, results := objects.All(api.Base{}, l)
	if len(results) != len(want) {
		t.Fatalf("P6.3: All of %d: %d results", len(l), len(results))
	}
	for i, code := range want {
		if results[i] != (api.Result{Code: code}) {
			t.Errorf("P6.3: All: result %d: %+v, not code %d", i, results[i], code)
		}
	}
	base := api.Base{Last: [api.Clients]api.Last{
		{Seq: 4, R: api.Result{Code: api.RLong}}, {Seq: 2, R: api.Result{Code: api.RNone}}, {Seq: 1},
	}}
	base.Objs[2] = there("xa", "v")
	if b != base {
		t.Errorf("P6.3: All: %#v, not %#v", b, base)
	}
}

func TestAllOfNoneOfOneAndOfMany(t *testing.T) {
	start := having(there("abc", "v"))
	for _, l := range [][]api.Op{nil, {}} {
		if b, results := objects.All(start, l); b != start || len(results) != 0 {
			t.Errorf("P6.3: All of none: %#v, %v", b, results)
		}
	}
	for _, l := range [][]api.Op{{write(1, 1, "x")}, {remove(1)}, {trunc(1, 17)}, {read(1)}, row(2, 1), row(1000, 2)} {
		b, results := objects.All(start, l)
		want, wanted := start, []api.Result(nil)
		for _, o := range l {
			var r api.Result
			want, r = objects.Do(want, o)
			wanted = append(wanted, r)
		}
		if b != want || !slices.Equal(results, wanted) {
			t.Errorf("P6.3: All of %d: %#v, %v; not %#v, %v", len(l), b, results, want, wanted)
		}
	}
}

func TestAllNeitherChangesNorKeepsItsList(t *testing.T) {
	room := append(row(6, 3), row(4, 4)...)
	before := slices.Clone(room)
	start := having(there("abc"))
	b, results := objects.All(start, room[:6])
	if !slices.Equal(room, before) || start != having(there("abc")) {
		t.Errorf("rule 3: All changed what was handed in")
	}
	_, again := objects.All(start, room[:6])
	kept, told := b, slices.Clone(results)
	for i := range room {
		room[i] = api.Op{Data: "spoilt"}
	}
	again = again[:cap(again)]
	for i := range again {
		again[i] = api.Result{Data: "spoilt"}
	}
	if b != kept || !slices.Equal(results, told) {
		t.Errorf("rule 3: an answer of All changed with another one")
	}
}
