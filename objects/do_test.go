package objects_test

import (
	"math"
	"math/rand/v2"
	"strings"
	"testing"

	"paddock/api"
	"paddock/objects"
)

// there: an object of these bytes, with attributes from the first on.
func there(data string, attrs ...string) api.Object {
	x := api.Object{There: true, Data: data}
	copy(x.Attr[:], attrs)
	return x
}

// having: a base with this as object 2, and beside it others' things that no operation on that one touches.
func having(x api.Object) api.Base {
	var b api.Base
	for obj := range b.Objs {
		b.Objs[obj] = there("other", "x", "y", "z")
	}
	b.Objs[2] = x
	b.Last[1] = api.Last{Seq: 8, R: api.Result{Code: api.RLong}}
	b.Last[2] = api.Last{Seq: 9}
	return b
}

// checkDo: Do makes x of object 2, answers this code, and but for Last of client 1 nothing else is changed.
func checkDo(t *testing.T, from api.Object, o api.Op, want api.Object, code uint8) {
	t.Helper()
	b := having(from)
	next, r := objects.Do(b, o)
	if r != (api.Result{Code: code}) {
		t.Errorf("P6.2: Do(%#v, %+v): result %+v, not code %d", from, o, r, code)
	}
	whole := having(want)
	whole.Last[0] = api.Last{Seq: o.Seq, R: api.Result{Code: code}}
	if next != whole {
		t.Errorf("P6.2: Do(%#v, %+v):\n%#v, not\n%#v", from, o, next, whole)
	}
	if b != having(from) {
		t.Errorf("rule 3: Do(%#v, %+v) made %#v of the base that was handed in", from, o, b)
	}
}

func noughts(n int) string { return strings.Repeat("\x00", n) }

func TestDoOfAWrite(t *testing.T) {
	none, long := api.Object{}, there(full(), "a", "", "c")
	for _, c := range []struct {
		from api.Object
		o    api.Op
		want api.Object
		code uint8
	}{
		{none, write(1, 1, "ab"), there("\x00ab"), api.RDone},
		{none, write(1, 0, "ab"), there("ab"), api.RDone},
		{none, write(1, 0, ""), there(""), api.RDone},
		{none, write(1, 3, ""), there(noughts(3)), api.RDone},
		{none, write(1, 0, full()), there(full()), api.RDone},
		{none, write(1, api.MaxData, ""), there(noughts(api.MaxData)), api.RDone},
		{none, write(1, api.MaxData-1, "z"), there(noughts(api.MaxData-1) + "z"), api.RDone},
		{there("abc", "v"), write(1, 5, "xy"), there("abc\x00\x00xy", "v"), api.RDone},
		{there("abc", "v"), write(1, 3, "xy"), there("abcxy", "v"), api.RDone},
		{there("abc"), write(1, 2, "xy"), there("abxy"), api.RDone},
		{there("abc"), write(1, 1, "x"), there("axc"), api.RDone},
		{there("abc"), write(1, 1, "xy"), there("axy"), api.RDone},
		{there("abc"), write(1, 0, "x"), there("xbc"), api.RDone},
		{there("abc"), write(1, 0, "wxyz"), there("wxyz"), api.RDone},
		{there("abc"), write(1, 0, ""), there("abc"), api.RDone},
		{there("abc"), write(1, 2, ""), there("abc"), api.RDone},
		{there("abc"), write(1, 3, ""), there("abc"), api.RDone},
		{there("abc"), write(1, 5, ""), there("abc\x00\x00"), api.RDone},
		{there("abc"), write(1, 1, "\x00"), there("a\x00c"), api.RDone},
		{there("abc"), write(1, 14, "xy"), there("abc" + noughts(11) + "xy"), api.RDone},
		{long, write(1, 15, "z"), there(full()[:15]+"z", "a", "", "c"), api.RDone},
		{long, write(1, 4, "yz"), there("ffffyzffffffffff", "a", "", "c"), api.RDone},
		{long, write(1, 16, ""), long, api.RDone},
		{none, write(1, 1, full()), none, api.RLong},
		{none, write(1, 15, "ab"), none, api.RLong},
		{none, write(1, 16, "a"), none, api.RLong},
		{none, write(1, 17, ""), none, api.RLong},
		{none, write(1, 255, ""), none, api.RLong},
		{none, write(1, 255, "a"), none, api.RLong},
		{none, write(1, 255, full()), none, api.RLong},
		{none, write(1, 240, full()), none, api.RLong},
		{there("abc", "v"), write(1, 1, full()), there("abc", "v"), api.RLong},
		{there("abc", "v"), write(1, 17, ""), there("abc", "v"), api.RLong},
		{long, write(1, 255, full()), long, api.RLong},
	} {
		checkDo(t, c.from, c.o, c.want, c.code)
	}
}

func TestDoOfACut(t *testing.T) {
	none := api.Object{}
	for _, c := range []struct {
		from api.Object
		at   uint8
		want api.Object
		code uint8
	}{
		{there("abcd", "v", "", "w"), 2, there("ab", "v", "", "w"), api.RDone},
		{there("abcd", "v"), 0, there("", "v"), api.RDone},
		{there("abcd"), 4, there("abcd"), api.RDone},
		{there("abcd", "v"), 6, there("abcd\x00\x00", "v"), api.RDone},
		{there("abcd"), api.MaxData, there("abcd" + noughts(12)), api.RDone},
		{there(""), api.MaxData, there(noughts(api.MaxData)), api.RDone},
		{there(full()), api.MaxData, there(full()), api.RDone},
		{there(full()), api.MaxData - 1, there(full()[1:]), api.RDone},
		{there(""), 0, there(""), api.RDone},
		{there("abcd", "v"), api.MaxData + 1, there("abcd", "v"), api.RLong},
		{there("abcd"), 255, there("abcd"), api.RLong},
		{there(full()), api.MaxData + 1, there(full()), api.RLong},
		{none, 0, none, api.RNone},
		{none, 1, none, api.RNone},
		{none, api.MaxData, none, api.RNone},
		{none, api.MaxData + 1, none, api.RNone},
		{none, 255, none, api.RNone},
	} {
		checkDo(t, c.from, trunc(1, c.at), c.want, c.code)
	}
}

func TestDoOfAnAttribute(t *testing.T) {
	none := api.Object{}
	for _, c := range []struct {
		from api.Object
		key  uint8
		data string
		want api.Object
		code uint8
	}{
		{there("d"), 0, "v", there("d", "v"), api.RDone},
		{there("d"), 1, "v", there("d", "", "v"), api.RDone},
		{there("d"), 2, "v", there("d", "", "", "v"), api.RDone},
		{there(""), 2, full(), there("", "", "", full()), api.RDone},
		{there("d", "a", "b", "c"), 0, "", there("d", "", "b", "c"), api.RDone},
		{there("d", "a", "b", "c"), 1, "", there("d", "a", "", "c"), api.RDone},
		{there("d", "a", "b", "c"), 2, "", there("d", "a", "b"), api.RDone},
		{there("d", "a", "b", "c"), 1, "\x00", there("d", "a", "\x00", "c"), api.RDone},
		{there("d", "long", "b"), 0, "x", there("d", "x", "b"), api.RDone},
		{there("d"), 1, "", there("d"), api.RDone},
		{there("d", "a"), api.Attrs, "v", there("d", "a"), api.RBad},
		{there("d", "a"), api.Attrs, "", there("d", "a"), api.RBad},
		{there("d", "a"), 255, "v", there("d", "a"), api.RBad},
		{none, 0, "v", none, api.RNone},
		{none, api.Attrs - 1, "", none, api.RNone},
		{none, api.Attrs, "v", none, api.RBad},
		{none, 255, "", none, api.RBad},
	} {
		checkDo(t, c.from, attr(1, c.key, c.data), c.want, c.code)
	}
}

func TestDoOfADelete(t *testing.T) {
	none := api.Object{}
	checkDo(t, there("abc", "a", "b", "c"), remove(1), none, api.RDone)
	checkDo(t, there(""), remove(1), none, api.RDone)
	checkDo(t, there("", "", "", "c"), remove(1), none, api.RDone)
	checkDo(t, none, remove(1), none, api.RNone)
}

func TestWhatWasDeletedAndIsWrittenAnewHasNothingOfBefore(t *testing.T) {
	b, results := objects.All(api.Base{}, []api.Op{
		write(1, 0, "abcdef"), attr(2, 0, "x"), attr(3, 2, "z"), remove(4), remove(5), trunc(6, 1), attr(7, 0, "x"), write(8, 2, "n"),
	})
	codes := []uint8{api.RDone, api.RDone, api.RDone, api.RDone, api.RNone, api.RNone, api.RNone, api.RDone}
	for i, code := range codes {
		if results[i] != (api.Result{Code: code}) {
			t.Errorf("P6.2: result %d: %+v, not code %d", i, results[i], code)
		}
	}
	want := api.Base{Last: [api.Clients]api.Last{{Seq: 8}}}
	want.Objs[2] = there("\x00\x00n")
	if b != want {
		t.Errorf("P6.2: %#v, not %#v", b, want)
	}
}

func TestDoTouchesItsObjectAndItsClientAlone(t *testing.T) {
	for obj := range uint8(api.Objects) {
		for client := uint8(1); client <= api.Clients; client++ {
			b, r := objects.Do(api.Base{}, of(client, on(obj, write(5, 0, "d"))))
			var want api.Base
			want.Objs[obj] = there("d")
			want.Last[client-1] = api.Last{Seq: 5}
			if b != want || r != (api.Result{}) {
				t.Errorf("P6.2: Do of client %d on object %d: %#v, %+v", client, obj, b, r)
			}
		}
	}
}

func TestDoOfWhatDoesntWriteChangesNothing(t *testing.T) {
	b := having(there("abc", "a"))
	b.Last[0] = api.Last{Seq: 1, R: api.Result{Code: api.RNone}}
	for _, o := range append(noOps(), read(1), read(2), of(2, read(8)), of(api.Clients, on(5, read(math.MaxUint32)))) {
		for _, base := range []api.Base{{}, b} {
			next, r := objects.Do(base, o)
			if next != base || r != (api.Result{Code: api.RBad}) {
				t.Errorf("P6.2: Do(%#v, %+v): %#v, %+v", base, o, next, r)
			}
			if r, seen := objects.Seen(base, o); seen || r != (api.Result{}) {
				t.Errorf("P6.2: Seen(%#v, %+v): %+v, %v", base, o, r, seen)
			}
		}
	}
}

func TestSeenIsOfTheLastSeqAndThoseBelow(t *testing.T) {
	for _, code := range []uint8{api.RDone, api.RNone, api.RLong, api.RBad} {
		for client := uint8(1); client <= api.Clients; client++ {
			var b api.Base
			b.Last[client-1] = api.Last{Seq: 7, R: api.Result{Code: code}}
			for _, c := range []struct {
				seq  uint32
				code uint8
				seen bool
			}{
				{1, api.RBad, true}, {6, api.RBad, true}, {7, code, true},
				{8, 0, false}, {9, 0, false}, {256 + 7, 0, false}, {1<<31 + 1, 0, false}, {math.MaxUint32, 0, false},
			} {
				for _, o := range []api.Op{write(c.seq, 0, "a"), trunc(c.seq, 255), attr(c.seq, 9, "v"), remove(c.seq)} {
					r, seen := objects.Seen(b, of(client, o))
					if r != (api.Result{Code: c.code}) || seen != c.seen {
						t.Errorf("P6.2: Seen of %d, the last one is 7 of code %d: %+v, %v", c.seq, code, r, seen)
					}
				}
				other := client%api.Clients + 1
				if r, seen := objects.Seen(b, of(other, remove(c.seq))); seen || r != (api.Result{}) {
					t.Errorf("P6.2: Seen of client %d, client %d did something: %+v, %v", other, client, r, seen)
				}
			}
		}
	}
}

func TestSeenAtTheGreatestSeq(t *testing.T) {
	b, r := objects.Do(api.Base{}, write(math.MaxUint32, 0, "a"))
	if r != (api.Result{}) || b.Last[0] != (api.Last{Seq: math.MaxUint32}) {
		t.Fatalf("P6.2: Do of the greatest Seq: %+v, %+v", r, b.Last[0])
	}
	if r, seen := objects.Seen(b, write(math.MaxUint32, 0, "a")); !seen || r != (api.Result{}) {
		t.Errorf("P6.2: Seen of the greatest Seq: %+v, %v", r, seen)
	}
	for _, seq := range []uint32{1, 1 << 31, math.MaxUint32 - 1} {
		next, r := objects.Do(b, remove(seq))
		if next != b || r != (api.Result{Code: api.RBad}) {
			t.Errorf("P6.2: Do of %d behind the greatest Seq: %#v, %+v", seq, next, r)
		}
	}
}

func TestSeenTellsTheResultAsLastHasIt(t *testing.T) {
	var b api.Base
	b.Last[0] = api.Last{Seq: 3, R: api.Result{Code: 77, Data: "odd"}}
	if r, seen := objects.Seen(b, remove(3)); !seen || r != b.Last[0].R {
		t.Errorf("P6.2: Seen: %+v, %v", r, seen)
	}
	if next, r := objects.Do(b, remove(3)); next != b || r != b.Last[0].R {
		t.Errorf("P6.2: Do of what is Seen: %#v, %+v", next, r)
	}
}

// TestDoOfBasesThatNoOperationsMake: all arguments are taken; the words hold of what is there.
func TestDoOfBasesThatNoOperationsMake(t *testing.T) {
	long := strings.Repeat("l", 40)
	checkDo(t, there(long), write(1, 2, "ab"), there("llab"+long[4:]), api.RDone)
	checkDo(t, there(long), write(1, 17, ""), there(long), api.RLong)
	checkDo(t, there(long), trunc(1, api.MaxData), there(long[:api.MaxData]), api.RDone)
	checkDo(t, there(long), trunc(1, api.MaxData+1), there(long), api.RLong)
	checkDo(t, there("d", long), attr(1, 0, "v"), there("d", "v"), api.RDone)
	ghost := api.Object{Data: "gone", Attr: [api.Attrs]string{"v"}}
	checkDo(t, ghost, trunc(1, 0), ghost, api.RNone)
	checkDo(t, ghost, attr(1, 0, "x"), ghost, api.RNone)
	checkDo(t, ghost, remove(1), ghost, api.RNone)
	checkDo(t, ghost, write(1, 15, "xy"), ghost, api.RLong)
	checkDo(t, ghost, write(1, 0, "x"), there("xone", "v"), api.RDone)
}

// byBytes does o with room for all bytes that an object can have, and its length beside it: another way to the same.
func byBytes(x api.Object, o api.Op) (api.Object, uint8) {
	var room [512]byte
	length := copy(room[:], x.Data)
	switch o.Kind {
	case api.OWrite:
		end := int(o.At) + len(o.Data)
		if end > api.MaxData {
			return x, api.RLong
		}
		copy(room[o.At:], o.Data)
		return api.Object{There: true, Data: string(room[:max(length, end)]), Attr: x.Attr}, api.RDone
	case api.OTrunc:
		if !x.There {
			return x, api.RNone
		}
		if o.At > api.MaxData {
			return x, api.RLong
		}
		x.Data = string(room[:o.At])
	case api.OAttr:
		if o.At > 2 {
			return x, api.RBad
		}
		if !x.There {
			return x, api.RNone
		}
		x.Attr[o.At] = o.Data
	case api.ODelete:
		if !x.There {
			return x, api.RNone
		}
		return api.Object{}, api.RDone
	}
	return x, api.RDone
}

// row: so many operations that write, each client's with rising numbers; another seed, another row.
func row(length int, seed uint64) []api.Op {
	r := rand.New(rand.NewPCG(seed, 6))
	var seqs [api.Clients + 1]uint32
	var l []api.Op
	for range length {
		client, obj := uint8(r.IntN(api.Clients)+1), uint8(r.IntN(api.Objects))
		seqs[client] += uint32(r.IntN(3) + 1)
		seq, at := seqs[client], uint8(r.IntN(api.MaxData+3))
		data := strings.Repeat(string(rune('a'+r.IntN(26))), r.IntN(api.MaxData+1))
		kinds := []api.Op{write(seq, at, data), write(seq, at/2, data[:len(data)/2]), trunc(seq, at), attr(seq, at%5, data), remove(seq)}
		l = append(l, of(client, on(obj, kinds[r.IntN(len(kinds))])))
	}
	return l
}

func TestRowsOfOperations(t *testing.T) {
	var counts [4]int
	for seed := range uint64(20) {
		var b, want api.Base
		for _, o := range row(300, seed) {
			x, code := byBytes(want.Objs[o.Obj], o)
			want.Objs[o.Obj] = x
			want.Last[o.Client-1] = api.Last{Seq: o.Seq, R: api.Result{Code: code}}
			next, r := objects.Do(b, o)
			if next != want || r != (api.Result{Code: code}) {
				t.Fatalf("P6.2: Do(%#v, %+v): %#v, %+v; not %#v, code %d", b, o, next, r, want, code)
			}
			b = next
			counts[code]++
		}
	}
	for code, n := range counts {
		if n < 100 {
			t.Errorf("the rows have code %d but %d times", code, n)
		}
	}
}
