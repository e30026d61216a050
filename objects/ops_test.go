package objects_test

import (
	"math"
	"strings"
	"testing"

	"paddock/api"
	"paddock/objects"
)

func write(seq uint32, at uint8, data string) api.Op {
	return api.Op{Client: 1, Seq: seq, Kind: api.OWrite, Obj: 2, At: at, Data: data}
}

func trunc(seq uint32, at uint8) api.Op {
	return api.Op{Client: 1, Seq: seq, Kind: api.OTrunc, Obj: 2, At: at}
}

func attr(seq uint32, key uint8, data string) api.Op {
	return api.Op{Client: 1, Seq: seq, Kind: api.OAttr, Obj: 2, At: key, Data: data}
}

func remove(seq uint32) api.Op {
	return api.Op{Client: 1, Seq: seq, Kind: api.ODelete, Obj: 2}
}

func read(seq uint32) api.Op {
	return api.Op{Client: 1, Seq: seq, Kind: api.ORead, Obj: 2}
}

// of: the same of another client.
func of(client uint8, o api.Op) api.Op {
	o.Client = client
	return o
}

// on: the same on another object.
func on(obj uint8, o api.Op) api.Op {
	o.Obj = obj
	return o
}

// as: the same of another kind, all else as it was.
func as(kind uint8, o api.Op) api.Op {
	o.Kind = kind
	return o
}

// filled: o with this in the fields that kinds use or not.
func filled(o api.Op, at uint8, data string) api.Op {
	o.At, o.Data = at, data
	return o
}

func full() string { return strings.Repeat("f", api.MaxData) }

// isOps: one of each kind, and each at its edges.
func isOps() []api.Op {
	l := []api.Op{
		write(1, 0, "a"), trunc(1, 1), attr(1, 1, "a"), remove(1), read(1),
		write(1, 0, ""), write(1, 0, full()), write(1, 255, full()), write(1, 200, ""), write(1, 7, "\x00\xff\n"),
		trunc(1, 0), trunc(1, api.MaxData), trunc(1, api.MaxData+1), trunc(1, 255),
		attr(1, 0, ""), attr(1, api.Attrs-1, full()), attr(1, api.Attrs, ""), attr(1, 255, full()),
	}
	for _, o := range l[:5] {
		for _, client := range []uint8{1, 2, api.Clients} {
			l = append(l, of(client, o))
		}
		for obj := range uint8(api.Objects) {
			l = append(l, on(obj, o))
		}
		for _, seq := range []uint32{1, 2, 256, 1 << 31, math.MaxUint32} {
			o.Seq = seq
			l = append(l, o)
		}
	}
	return l
}

// noOps: what is no operation, each by one thing alone, and some by several.
func noOps() []api.Op {
	long := full() + "g"
	l := []api.Op{
		{},
		write(1, 0, long), attr(1, 0, long), write(1, 0, strings.Repeat("a", 300)), attr(1, 0, strings.Repeat("a", 256)),
		filled(trunc(1, 1), 1, "a"), filled(trunc(1, 1), 0, "\x00"), filled(trunc(1, 1), 1, long),
		filled(remove(1), 0, "a"), filled(remove(1), 1, ""), filled(remove(1), 255, ""), filled(remove(1), 1, "a"), filled(remove(1), 0, long),
		filled(read(1), 0, "a"), filled(read(1), 1, ""), filled(read(1), 255, ""), filled(read(1), 1, "a"), filled(read(1), 0, long),
	}
	for _, o := range []api.Op{write(1, 0, "a"), trunc(1, 1), attr(1, 1, "a"), remove(1), read(1)} {
		for _, client := range []uint8{0, api.Clients + 1, 128, 255} {
			l = append(l, of(client, o))
		}
		for _, obj := range []uint8{api.Objects, api.Objects + 1, 128, 255} {
			l = append(l, on(obj, o))
		}
		for _, kind := range []uint8{0, api.ORead + 1, 128, 255} {
			l = append(l, as(kind, o))
		}
		o.Seq = 0
		l = append(l, o)
	}
	for _, kind := range []uint8{0, api.ORead + 1, 255} {
		l = append(l, as(kind, read(1)))
	}
	return l
}

func TestIsOp(t *testing.T) {
	for _, o := range isOps() {
		if !objects.IsOp(o) {
			t.Errorf("P6.1: IsOp(%+v): false", o)
		}
	}
	for _, o := range noOps() {
		if objects.IsOp(o) {
			t.Errorf("P6.1: IsOp(%+v): true", o)
		}
	}
}

func TestWritesIsOfOperationsThatAreNoReads(t *testing.T) {
	for _, o := range isOps() {
		if want := o.Kind != api.ORead; objects.Writes(o) != want {
			t.Errorf("P6.1: Writes(%+v): %v", o, !want)
		}
	}
	for _, o := range noOps() {
		if objects.Writes(o) {
			t.Errorf("P6.1: Writes(%+v): true", o)
		}
	}
}
