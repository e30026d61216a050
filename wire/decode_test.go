package wire_test

import (
	"bytes"
	"math/rand/v2"
	"slices"
	"testing"

	"paddock/api"
	"paddock/wire"
)

// checkDecode: a message of which Encode tells just these bytes, or an error and nothing beside it; whether there was one.
func checkDecode(t *testing.T, name string, b []byte) bool {
	t.Helper()
	before := slices.Clone(b)
	m, e := wire.Decode(b)
	if !bytes.Equal(b, before) {
		t.Fatalf("rule 3: %s: Decode changed %x", name, before)
	}
	if e == api.OK {
		if back, f := wire.Encode(m); f != api.OK || !bytes.Equal(back, b) {
			t.Errorf("P12.3: %s: Decode(%x): %+v, of which Encode tells %x, %v", name, b, m, back, f)
		}
		return true
	}
	if e != api.ErrShort && e != api.ErrLong && e != api.ErrSum && e != api.ErrForm {
		t.Errorf("P12.3: %s: Decode(%x): %v", name, b, e)
	}
	if !wire.Same(m, api.Msg{}) {
		t.Errorf("rule 4: %s: Decode(%x): %+v beside %v", name, b, m, e)
	}
	return false
}

func checkNoMessage(t *testing.T, name string, b []byte) {
	t.Helper()
	if checkDecode(t, name, b) {
		t.Errorf("P12.3: %s: Decode(%x) is a message", name, b)
	}
}

// checkBack: what Encode tells of m is m again.
func checkBack(t *testing.T, m api.Msg) {
	t.Helper()
	b, e := wire.Encode(m)
	got, f := wire.Decode(b)
	if e != api.OK || f != api.OK || !alike(got, m) {
		t.Errorf("P12.3: %+v comes back as %+v (%v, %v)", m, got, e, f)
	}
	if got, f = wire.Decode(bytesOf(m)); f != api.OK || !alike(got, m) {
		t.Errorf("P12.3: Decode(%x): %+v, %v, not %+v", bytesOf(m), got, f, m)
	}
}

func TestBack(t *testing.T) {
	for _, m := range append(ordinary(), messages()...) {
		checkBack(t, m)
	}
}

func TestBackOfWhatWasThrownAbout(t *testing.T) {
	r := rand.New(rand.NewPCG(12, 3))
	right := append(ordinary(), messages()...)
	for range 20000 {
		if m := bentMessage(r, right); isMessage(m) {
			checkBack(t, m)
		}
	}
}

// body: b without its sum.
func body(b []byte) []byte { return b[: len(b)-8 : len(b)-8] }

// TestATurnedBit: each single one.
func TestATurnedBit(t *testing.T) {
	for _, m := range ordinary() {
		b, _ := wire.Encode(m)
		for i := range 8 * len(b) {
			b[i/8] ^= 1 << (i % 8)
			checkNoMessage(t, "a bit turned", b)
			b[i/8] ^= 1 << (i % 8)
		}
		if !checkDecode(t, "as it was", b) {
			t.Errorf("P12.3: no message: %x", b)
		}
	}
}

// TestAnotherByte: at each place, with the right sum behind it: what comes of it is another message, or none. Some of both are met.
func TestAnotherByte(t *testing.T) {
	messages, errors := 0, 0
	for _, m := range ordinary() {
		b, _ := wire.Encode(m)
		b = body(b)
		for i, was := range b {
			for _, c := range []byte{0, 1, 2, 3, 4, 5, 6, 7, 10, 14, 16, 17, 21, 60, 61, 80, 81, 127, 128, 255, was + 1, was - 1} {
				if b[i] = c; checkDecode(t, "another byte", summed(b)) {
					messages++
				} else {
					errors++
				}
			}
			b[i] = was
		}
	}
	if messages < 1000 || errors < 1000 {
		t.Errorf("%d messages, %d errors", messages, errors)
	}
}

// TestAnotherSum: the very message, with each other byte in its sum.
func TestAnotherSum(t *testing.T) {
	b := bytesOf(ordinaryOf(api.MAsk))
	for i := len(b) - 8; i < len(b); i++ {
		for c := 1; c < 256; c++ {
			b[i] ^= byte(c)
			checkNoMessage(t, "another sum", b)
			b[i] ^= byte(c)
		}
	}
	checkNoMessage(t, "a sum of noughts", append(body(b), 0, 0, 0, 0, 0, 0, 0, 0))
	checkNoMessage(t, "the sum the other way round", append(body(b), b[14], b[13], b[12], b[11], b[10], b[9], b[8], b[7]))
}

func TestCutOff(t *testing.T) {
	for _, m := range ordinary() {
		b := bytesOf(m)
		for k := range b {
			checkNoMessage(t, "cut off", b[:k])
			checkNoMessage(t, "its beginning cut off", b[k+1:])
		}
		for k := range body(b) {
			checkNoMessage(t, "cut off, with a sum", summed(b[:k]))
		}
	}
}

func TestMoreBehind(t *testing.T) {
	r := rand.New(rand.NewPCG(12, 4))
	for _, m := range ordinary() {
		b := bytesOf(m)
		for more := 1; more < 40; more++ {
			l := make([]byte, more)
			checkNoMessage(t, "noughts behind it", append(slices.Clip(b), l...))
			checkNoMessage(t, "noughts ahead of the sum", summed(append(body(b), l...)))
			fill(r, l)
			checkNoMessage(t, "more behind it", append(slices.Clip(b), l...))
			checkNoMessage(t, "more ahead of the sum", summed(append(body(b), l...)))
		}
		checkNoMessage(t, "once more", append(slices.Clip(b), b...))
		checkNoMessage(t, "once more, with a sum", summed(b))
	}
}

// TestABytePutInOrLeftOut: at each place, with the right sum.
func TestABytePutInOrLeftOut(t *testing.T) {
	for _, m := range ordinary() {
		b := body(bytesOf(m))
		for i := range b {
			checkDecode(t, "a byte left out", summed(slices.Delete(slices.Clone(b), i, i+1)))
			for _, c := range []byte{0, 1, b[i], 255} {
				checkDecode(t, "a byte put in", summed(slices.Insert(slices.Clone(b), i, c)))
			}
		}
	}
}

// TestFlags: There and Has are 0 or 1; nothing else tells the same.
func TestFlags(t *testing.T) {
	promise, info := body(bytesOf(ordinaryOf(api.MPromise))), body(bytesOf(ordinaryOf(api.MInfo)))
	for c := 2; c < 256; c++ {
		promise[17] = byte(c)
		checkNoMessage(t, "Has", summed(promise))
		info[20] = byte(c)
		checkNoMessage(t, "There", summed(info))
	}
	promise[17], info[20] = 1, 1
	if !checkDecode(t, "Has", summed(promise)) || !checkDecode(t, "There", summed(info)) {
		t.Error("P12.3: flags of 1 are no flags")
	}
}

// TestTextsAndCounts: lengths one past what is allowed, with all the bytes that they ask for.
func TestTextsAndCounts(t *testing.T) {
	for name, m := range map[string]api.Msg{
		"Op's Data":       with(ordinaryOf(api.MOp), func(m *api.Msg) { m.Op.Data = long() }),
		"R's Data":        with(ordinaryOf(api.MReply), func(m *api.Msg) { m.R.Data = string(make([]byte, 81)) }),
		"an object's":     with(ordinaryOf(api.MInfo), func(m *api.Msg) { m.State.Base.Objs[0].Data = long() }),
		"an attribute's":  with(ordinaryOf(api.MInfo), func(m *api.Msg) { m.State.Base.Objs[0].Attr[1] = long() }),
		"an entry's":      with(ordinaryOf(api.MRep), func(m *api.Msg) { m.Entry.Op.Data = long() }),
		"State's Log":     with(ordinaryOf(api.MInfo), func(m *api.Msg) { m.State.Log = entries(60, m.State.Tail.N, 7, "") }),
		"Diff's Log":      with(ordinaryOf(api.MPush), func(m *api.Msg) { m.Diff.Log = entries(60, 9, 7, "") }),
		"a great State's": with(ordinaryOf(api.MInfo), func(m *api.Msg) { m.State.Log = entries(60, m.State.Tail.N, 60, "") }),
		"no Diff's Log":   with(ordinaryOf(api.MPush), func(m *api.Msg) { m.Diff.Kind = 0 }),
		"an increment":    with(ordinaryOf(api.MLearn), func(m *api.Msg) { m.Inc.N = 1 }),
	} {
		checkNoMessage(t, name, bytesOf(m))
	}
}

// TestMaxBytes: no message is so long: whatever lies there is none.
func TestMaxBytes(t *testing.T) {
	r := rand.New(rand.NewPCG(12, 5))
	for _, m := range ordinary() {
		b := body(bytesOf(m))
		for _, length := range []int{api.MaxBytes - 1, api.MaxBytes, api.MaxBytes + 1, api.MaxBytes + 8, 2 * api.MaxBytes, 65536, 1 << 20} {
			l := make([]byte, length-8-len(b))
			checkNoMessage(t, "noughts up to there", summed(append(b, l...)))
			checkNoMessage(t, "noughts up to there, a sum alone ahead of them", append(slices.Clip(bytesOf(m)), l...))
			fill(r, l)
			checkNoMessage(t, "bytes up to there", summed(append(b, l...)))
		}
	}
}

func TestNoBytes(t *testing.T) {
	checkNoMessage(t, "nil", nil)
	checkNoMessage(t, "no bytes", []byte{})
	checkNoMessage(t, "a sum of nothing", summed(nil))
	for length := range 3 * api.MaxBytes / 2 {
		checkNoMessage(t, "noughts", make([]byte, length))
	}
}

// TestSpareRoomIsNotRead: a message of which the end lies in the room behind the bytes is none.
func TestSpareRoomIsNotRead(t *testing.T) {
	for _, m := range ordinary() {
		b := bytesOf(m)
		checkNoMessage(t, "its end in the room behind", b[:len(b)-1:len(b)])
		room := append(slices.Clone(b), "more"...)
		if !checkDecode(t, "room behind it", room[:len(b)]) {
			t.Errorf("P12.3: the room behind %x counts", b)
		}
	}
}

func fill(r *rand.Rand, b []byte) {
	for i := range b {
		b[i] = byte(r.Uint32())
	}
}

// TestRandomBytes: with and without a sum; behind a right beginning of each kind too.
func TestRandomBytes(t *testing.T) {
	r := rand.New(rand.NewPCG(12, 6))
	for range 20000 {
		b := make([]byte, r.IntN(120))
		fill(r, b)
		checkNoMessage(t, "random bytes", b)
		checkDecode(t, "random bytes with a sum", summed(b))
		m := ordinary()[r.IntN(18)]
		begun := append([]byte{m.Kind, m.From, m.To, 0, 0, 0, byte(m.Epoch)}, b...)
		checkDecode(t, "random bytes behind a beginning", summed(begun))
		for i := range b {
			b[i] %= 3
		}
		copy(begun[7:], b)
		checkDecode(t, "small random bytes behind a beginning", summed(begun))
	}
}

// TestSpoilt: messages with some of their bytes thrown about, with the right sum.
func TestSpoilt(t *testing.T) {
	r := rand.New(rand.NewPCG(12, 7))
	right := append(ordinary(), messages()...)
	for range 20000 {
		b := body(bytesOf(right[r.IntN(len(right))]))
		for range 1 + r.IntN(3) {
			b[r.IntN(len(b))] = byte(r.IntN(1 << r.IntN(9)))
		}
		checkDecode(t, "spoilt", summed(b))
	}
}

func FuzzDecode(f *testing.F) {
	for _, m := range ordinary() {
		f.Add(body(bytesOf(m)))
	}
	f.Fuzz(func(t *testing.T, b []byte) {
		checkDecode(t, "bytes", b)
		checkDecode(t, "bytes with a sum", summed(b))
	})
}
