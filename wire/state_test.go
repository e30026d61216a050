package wire_test

import (
	"bytes"
	"math/rand/v2"
	"slices"
	"testing"

	"paddock/api"
	"paddock/pglog"
	"paddock/wire"
)

// checkGet: a state of which PutState tells just what was read, and what is behind it; or an error, no state, and all of b. Whether there was one.
func checkGet(t *testing.T, name string, b []byte) bool {
	t.Helper()
	s, rest, e := wire.GetState(b)
	if e == api.OK {
		if !pglog.Is(s) || !bytes.Equal(wire.PutState(nil, s), b[:len(b)-len(rest)]) || !bytes.Equal(rest, b[len(b)-len(rest):]) {
			t.Errorf("P12.3: %s: GetState(%x): %+v, %x", name, b, s, rest)
		}
		return true
	}
	if e != api.ErrShort && e != api.ErrLong && e != api.ErrForm {
		t.Errorf("P12.3: %s: GetState(%x): %v", name, b, e)
	}
	if !alike(api.Msg{State: s}, api.Msg{}) || !bytes.Equal(rest, b) {
		t.Errorf("P12.3: %s: GetState(%x): %+v, %x beside %v", name, b, s, rest, e)
	}
	return false
}

func checkNoState(t *testing.T, name string, b []byte) {
	t.Helper()
	if checkGet(t, name, b) {
		t.Errorf("P12.3: %s: GetState(%x) is a state", name, b)
	}
}

func TestPutState(t *testing.T) {
	for _, s := range states() {
		for _, ahead := range []string{"", "a", "ahead of it"} {
			if b := wire.PutState([]byte(ahead), s); string(b) != ahead+string(stateBytes(s)) {
				t.Errorf("P12.3: PutState(%q, %+v): %x, not %x", ahead, s, b, stateBytes(s))
			}
		}
		if b := wire.PutState(nil, s); !bytes.Equal(b, stateBytes(s)) {
			t.Errorf("P12.3: PutState(nil, %+v): %x, not %x", s, b, stateBytes(s))
		}
	}
}

// TestPutStateByteByByte: that of nothing, and one with something, written out.
func TestPutStateByteByByte(t *testing.T) {
	s := api.State{Started: 5, Base: someBase(), Tail: api.Entry{Since: 4, N: 258}, Log: []api.Entry{{Since: 6, N: 259, Op: api.Op{Client: 3, Seq: 9, Kind: api.OTrunc, Obj: 4, At: 7}}}}
	for _, c := range []struct {
		s    api.State
		want string
	}{
		{api.State{}, "00000000 00000000 00000000" + noObjects + "00"},
		{s, "00000005 00000004 00000102" + objectsOf + "01  00000006 00000103 03 00000009 02 04 07 0000"},
	} {
		if b := wire.PutState(nil, c.s); !bytes.Equal(b, unhex(c.want)) {
			t.Errorf("P12.3: PutState(%+v): %x, not %x", c.s, b, unhex(c.want))
		}
	}
	if b := wire.PutState(nil, longest()); len(b) != 670 {
		t.Errorf("P12.3: the longest state: %d bytes", len(b))
	}
}

func TestPutStateOfNone(t *testing.T) {
	for _, s := range noStates() {
		for _, ahead := range []string{"", "a", "ahead of it"} {
			if b := wire.PutState([]byte(ahead), s); string(b) != ahead {
				t.Errorf("P12.3: PutState(%q) of no state: %x", ahead, b)
			}
		}
		if b := wire.PutState(nil, s); len(b) != 0 {
			t.Errorf("P12.3: PutState(nil) of no state: %x", b)
		}
	}
}

func TestGetState(t *testing.T) {
	for _, s := range states() {
		for _, behind := range []string{"", "b", "\x00\x00\x00\x00", "behind it", string(stateBytes(s)), string(make([]byte, 3000))} {
			b := append(stateBytes(s), behind...)
			got, rest, e := wire.GetState(b)
			if e != api.OK || !alike(api.Msg{State: got}, api.Msg{State: s}) || string(rest) != behind {
				t.Errorf("P12.3: GetState(%x): %+v, %x, %v, not %+v, %q", b, got, rest, e, s, behind)
			}
		}
	}
}

// TestStatesInARow: one behind the other, as they were put.
func TestStatesInARow(t *testing.T) {
	var b []byte
	for _, s := range states() {
		b = wire.PutState(b, s)
	}
	for i, s := range states() {
		got, rest, e := wire.GetState(b)
		if e != api.OK || !pglog.Same(got, s) {
			t.Errorf("P12.3: state %d of a row: %+v, %v", i, got, e)
		}
		b = rest
	}
	if len(b) != 0 {
		t.Errorf("P12.3: %x behind a row", b)
	}
}

func TestGetStateOfWhatIsCutOff(t *testing.T) {
	for _, s := range states() {
		b := stateBytes(s)
		for k := range b {
			checkNoState(t, "cut off", b[:k])
			checkNoState(t, "cut off, its end in the room behind", b[:k:len(b)])
		}
	}
	checkNoState(t, "nil", nil)
}

// toldByBytes: whether the bytes tell all of s: neither an operation of Tail nor texts of last results lie in them, and no more than 255 entries.
func toldByBytes(s api.State) bool {
	for _, l := range s.Base.Last {
		if l.R.Data != "" {
			return false
		}
	}
	return s.Tail.Op == api.Op{} && len(s.Log) <= 255
}

// TestGetStateOfNone: bytes of what would be a state, but for one thing.
func TestGetStateOfNone(t *testing.T) {
	tried := 0
	for _, s := range noStates() {
		if toldByBytes(s) {
			tried++
			checkNoState(t, "no state", stateBytes(s))
			checkNoState(t, "no state, something behind it", append(stateBytes(s), make([]byte, 500)...))
		}
	}
	if tried < 15 {
		t.Errorf("%d were tried", tried)
	}
}

// TestGetStateOfAnotherByte: at each place: another state, or none.
func TestGetStateOfAnotherByte(t *testing.T) {
	found, none := 0, 0
	for _, s := range []api.State{{}, states()[8], longest()} {
		b := append(stateBytes(s), "behind"...)
		for i, was := range b {
			for _, c := range []byte{0, 1, 2, 3, 4, 5, 6, 7, 16, 17, 60, 61, 128, 255, was + 1, was - 1} {
				if b[i] = c; checkGet(t, "another byte", b) {
					found++
				} else {
					none++
				}
			}
			b[i] = was
		}
	}
	if found < 1000 || none < 1000 {
		t.Errorf("%d states, %d none", found, none)
	}
}

func TestGetStateOfRandomBytes(t *testing.T) {
	r := rand.New(rand.NewPCG(12, 8))
	for range 20000 {
		b := make([]byte, r.IntN(900))
		fill(r, b)
		checkNoState(t, "random bytes", b)
		for i := range b {
			b[i] = b[i] % 24 / 23
		}
		checkGet(t, "few bits", b)
		s := states()[r.IntN(len(states()))]
		b = append(stateBytes(s), b[:min(len(b), 9)]...)
		for range r.IntN(4) {
			b[r.IntN(len(b))] = byte(r.IntN(1 << r.IntN(9)))
		}
		checkGet(t, "spoilt", b)
	}
}

// TestAStateIsWhatAMessageBears: the bytes of one are those in MInfo, and in MPush of Kind 2.
func TestAStateIsWhatAMessageBears(t *testing.T) {
	for _, s := range states() {
		info, _ := wire.Encode(with(ordinaryOf(api.MInfo), func(m *api.Msg) { m.State = s }))
		whole, _ := wire.Encode(push(api.Diff{Kind: 2, Whole: s}))
		b := wire.PutState(nil, s)
		if !bytes.Equal(b, info[8:len(info)-8]) || !bytes.Equal(b, whole[14:len(whole)-8]) {
			t.Errorf("P12.2: the bytes of %+v: %x; in messages %x, %x", s, b, info, whole)
		}
	}
}

func FuzzGetState(f *testing.F) {
	for _, s := range states() {
		f.Add(slices.Clone(stateBytes(s)))
	}
	f.Fuzz(func(t *testing.T, b []byte) { checkGet(t, "bytes", b) })
}
