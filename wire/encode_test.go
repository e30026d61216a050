package wire_test

import (
	"bytes"
	"encoding/hex"
	"math/rand/v2"
	"strings"
	"testing"

	"paddock/api"
	"paddock/wire"
)

// unhex: bytes written with blanks between them.
func unhex(s string) []byte {
	b, err := hex.DecodeString(strings.Join(strings.Fields(s), ""))
	if err != nil {
		panic(err)
	}
	return b
}

// TestTheExample: its sum worked out apart from the program.
func TestTheExample(t *testing.T) {
	for _, c := range []struct {
		epoch uint32
		want  string
	}{
		{1, "06 0a 00 00000001 c15fc8ce7f351de8"},
		{60, "06 0a 00 0000003c c15f95ce7f34c73f"},
	} {
		m := api.Msg{Kind: api.MAsk, From: 10, To: 0, Epoch: c.epoch}
		if b, e := wire.Encode(m); e != api.OK || !bytes.Equal(b, unhex(c.want)) {
			t.Errorf("P12.2: %x, %v, not %s", b, e, c.want)
		}
		if got, e := wire.Decode(unhex(c.want)); e != api.OK || !wire.Same(got, m) {
			t.Errorf("P12.3: %+v, %v, not %+v", got, e, m)
		}
	}
}

// objectsOf: the bytes of someBase's objects and last ones, written out.
const objectsOf = `
	01 0003 006162 0000 0001 76 0000
	00 0000 0000 0000 0000
	01 0000 0000 0000 0000
	01 0000 0001 6b 0000 0010 66666666666666666666666666666666
	00 0000 0000 0000 0000
	01 0010 66666666666666666666666666666666 0000 0000 0000
	00000007 00  00000000 00  01000000 02 `

// noObjects: those of a base with nothing.
const noObjects = `
	00 0000000000000000  00 0000000000000000  00 0000000000000000  00 0000000000000000  00 0000000000000000  00 0000000000000000
	00000000 00  00000000 00  00000000 00 `

// TestBytes: a message of each kind, byte by byte up to the sum.
func TestBytes(t *testing.T) {
	inc := api.Inc{Kind: api.IWeight, Osd: 3, N: 9}
	s := api.State{Started: 5, Base: someBase(), Tail: api.Entry{Since: 4, N: 0x1020304}, Log: []api.Entry{
		{Since: 6, N: 0x1020305, Op: api.Op{Client: 3, Seq: 0x708, Kind: api.OAttr, Obj: 4, At: 1, Data: "hi"}}, {Since: 7, N: 0x1020306, Op: api.Op{Client: 1, Seq: 9, Kind: api.ODelete, Obj: 2}},
	}}
	const log = "02  00000006 01020305 03 00000708 03 04 01 0002 6869  00000007 01020306 01 00000009 04 02 00 0000"
	const state = "00000005 00000004 01020304" + objectsOf + log
	for _, c := range []struct {
		m    api.Msg
		want string
	}{
		{api.Msg{Kind: api.MPrepare, From: 1, To: 2, Epoch: 5, B: at(0x1020304, 1)}, "01 01 02 00000005  01020304 01"},
		{api.Msg{Kind: api.MPromise, From: 1, To: 2, Epoch: 5, B: at(0x1020304, 2)}, "02 01 02 00000005  01020304 02  00000000 00  00  00 00 00"},
		{api.Msg{Kind: api.MPromise, From: 1, To: 2, Epoch: 5, B: at(0x1020304, 2), Acc: at(0x506, 1), Has: true, Inc: inc}, "02 01 02 00000005  01020304 02  00000506 01  01  03 03 09"},
		{api.Msg{Kind: api.MAccept, From: 1, To: 2, Epoch: 5, B: at(0x1020304, 1), Inc: inc}, "03 01 02 00000005  01020304 01  03 03 09"},
		{api.Msg{Kind: api.MAccepted, From: 1, To: 2, Epoch: 5, B: at(0x1020304, 2)}, "04 01 02 00000005  01020304 02"},
		{api.Msg{Kind: api.MLearn, From: 1, To: 14, Epoch: 5, Inc: inc}, "05 01 0e 00000005  03 03 09"},
		{api.Msg{Kind: api.MLearn, From: 1, To: 0, Epoch: 60, Inc: api.Inc{Kind: api.INone}}, "05 01 00 0000003c  04 00 00"},
		{api.Msg{Kind: api.MAsk, From: 1, To: 2, Epoch: 5}, "06 01 02 00000005"},
		{api.Msg{Kind: api.MQuery, From: 11, To: 12, Epoch: 5, Group: 3}, "07 0b 0c 00000005  03"},
		{api.Msg{Kind: api.MInfo, From: 11, To: 12, Epoch: 5, Group: 3, State: s}, "08 0b 0c 00000005  03  " + state},
		{api.Msg{Kind: api.MInfo, From: 11, To: 12, Epoch: 5}, "08 0b 0c 00000005  00  00000000 00000000 00000000" + noObjects + "00"},
		{api.Msg{Kind: api.MPush, From: 11, To: 12, Epoch: 5, Group: 3, Diff: api.Diff{Whole: ends(s)}}, "09 0b 0c 00000005  03  00 00000000 00  00000005 00000004 01020304" + noObjects + "00"},
		{api.Msg{Kind: api.MPush, From: 11, To: 12, Epoch: 5, Group: 3, Diff: api.Diff{Kind: 1, From: 0x1020304, Log: s.Log, Whole: ends(s)}}, "09 0b 0c 00000005  03  01 01020304 " + log + "  00000005 00000004 01020304" + noObjects + "00"},
		{api.Msg{Kind: api.MPush, From: 11, To: 12, Epoch: 5, Group: 3, Diff: api.Diff{Kind: 2, Whole: s}}, "09 0b 0c 00000005  03  02 00000000 00  " + state},
		{api.Msg{Kind: api.MHave, From: 11, To: 12, Epoch: 5, Group: 3, N: 0x1020304}, "0a 0b 0c 00000005  03  01020304"},
		{api.Msg{Kind: api.MRep, From: 11, To: 12, Epoch: 5, Group: 3, Entry: s.Log[0]}, "0b 0b 0c 00000005  03  00000006 01020305 03 00000708 03 04 01 0002 6869"},
		{api.Msg{Kind: api.MRepAck, From: 11, To: 12, Epoch: 5, Group: 3, N: 0x1020304}, "0c 0b 0c 00000005  03  01020304"},
		{api.Msg{Kind: api.MCheck, From: 11, To: 12, Epoch: 5, Group: 3, Op: read(2, 0x102)}, "0d 0b 0c 00000005  03  02 00000102 05 05 00 0000"},
		{api.Msg{Kind: api.MCheckAck, From: 11, To: 12, Epoch: 5, Group: 3, Op: read(2, 0x102)}, "0e 0b 0c 00000005  03  02 00000102 05 05 00 0000"},
		{api.Msg{Kind: api.MOp, From: 23, To: 12, Op: s.Log[0].Op}, "0f 17 0c 00000000  03 00000708 03 04 01 0002 6869"},
		{api.Msg{Kind: api.MReply, From: 12, To: 23, Op: s.Log[0].Op, R: api.Result{Code: api.RLong, Data: "\x00;1"}}, "10 0c 17 00000000  03 00000708 03 04 01 0002 6869  02 0003 003b31"},
		{api.Msg{Kind: api.MReport, From: 12, To: 2, N: 4}, "11 0c 02 00000000  00000004"},
		{api.Msg{Kind: api.MNack, From: 1, To: 2, Epoch: 5, B: at(0x1020304, 0)}, "12 01 02 00000005  01020304 00"},
	} {
		if b, e := wire.Encode(c.m); e != api.OK || !bytes.Equal(b, summed(unhex(c.want))) {
			t.Errorf("P12.2: Encode(%+v): %x, %v, not %x", c.m, b, e, summed(unhex(c.want)))
		}
	}
}

func TestBytesOfAll(t *testing.T) {
	for _, m := range append(ordinary(), messages()...) {
		if b, e := wire.Encode(m); e != api.OK || !bytes.Equal(b, bytesOf(m)) {
			t.Errorf("P12.2: Encode(%+v): %x, %v, not %x", m, b, e, bytesOf(m))
		}
	}
}

// TestLengths: how long the longest of each kind is, written out; all of them are far from MaxBytes.
func TestLengths(t *testing.T) {
	want := [...]int{
		api.MPrepare: 20, api.MPromise: 29, api.MAccept: 23, api.MAccepted: 20, api.MLearn: 18, api.MAsk: 15, api.MQuery: 16, api.MInfo: 686, api.MPush: 692, api.MHave: 20,
		api.MRep: 50, api.MRepAck: 20, api.MCheck: 26, api.MCheckAck: 26, api.MOp: 41, api.MReply: 124, api.MReport: 19, api.MNack: 20,
	}
	most := [len(want)]int{}
	for _, m := range messages() {
		b, _ := wire.Encode(m)
		most[m.Kind] = max(most[m.Kind], len(b))
	}
	if most != want {
		t.Errorf("P12.2: the longest ones: %v, not %v", most, want)
	}
	for kind, length := range want {
		if length > api.MaxBytes {
			t.Errorf("kind %d: %d bytes", kind, length)
		}
	}
}

// TestNoTwoAreOne: messages that are unlike have unlike bytes.
func TestNoTwoAreOne(t *testing.T) {
	seen := map[string]api.Msg{}
	r := rand.New(rand.NewPCG(12, 2))
	right := append(ordinary(), messages()...)
	l := right
	for range 20000 {
		l = append(l, bentMessage(r, right))
	}
	for _, m := range l {
		b, e := wire.Encode(m)
		if e != api.OK {
			continue
		}
		if other, found := seen[string(b)]; found && !wire.Same(m, other) {
			t.Errorf("P12.3: one row of bytes for %+v and %+v", m, other)
		}
		seen[string(b)] = m
	}
}
