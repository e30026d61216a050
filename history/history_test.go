package history_test

import (
	"fmt"
	"math"
	"math/rand/v2"
	"testing"

	"paddock/api"
	"paddock/history"
	"paddock/maps"
)

func up(osd uint8) api.Inc            { return api.Inc{Kind: api.IUp, Osd: osd} }
func down(osd uint8) api.Inc          { return api.Inc{Kind: api.IDown, Osd: osd} }
func weight(osd uint8, n int) api.Inc { return api.Inc{Kind: api.IWeight, Osd: osd, N: n} }
func none() api.Inc                   { return api.Inc{Kind: api.INone} }

// noIncs: of each kind there is what it can't have, and kinds that there are not.
func noIncs() []api.Inc {
	return []api.Inc{
		{}, {Kind: 5}, {Kind: 255}, {Osd: 4}, {N: 8},
		up(api.Osds), down(api.Osds), down(255), weight(api.Osds, 8),
		weight(0, -1), weight(4, api.MaxWeight+1), weight(1, math.MinInt), weight(1, math.MaxInt),
		{Kind: api.IUp, N: 1}, {Kind: api.IDown, N: -1}, {Kind: api.INone, Osd: 1}, {Kind: api.INone, N: 1},
	}
}

// row: so many increments of all kinds and daemons; another seed, another row.
func row(length int, seed uint64) []api.Inc {
	r := rand.New(rand.NewPCG(seed, 5))
	l := make([]api.Inc, length)
	for i := range l {
		osd := uint8(r.IntN(api.Osds))
		kinds := [...]api.Inc{none(), up(osd), up(osd), down(osd), down(osd), weight(osd, 0), weight(osd, r.IntN(api.MaxWeight+1))}
		l[i] = kinds[r.IntN(len(kinds))]
	}
	return l
}

// grown: a history of these increments, each added at its epoch.
func grown(t *testing.T, l []api.Inc) *history.History {
	t.Helper()
	h := history.New()
	grow(t, h, l)
	return h
}

// grow adds these at the epochs behind the last one.
func grow(t *testing.T, h *history.History, l []api.Inc) {
	t.Helper()
	for _, x := range l {
		epoch := h.Last() + 1
		if e := h.Add(epoch, x); e != api.OK {
			t.Fatalf("P5.1: Add(%d, %v): %v", epoch, x, e)
		}
	}
}

// edges: epochs that no history has, whatever it was told.
func edges() []uint32 {
	return []uint32{0, api.MaxEpoch + 1, api.MaxEpoch + 2, 256 + 1, 256 + 2, 1<<16 + 1, 1<<16 + 2, 1 << 31, 1<<31 + 2, math.MaxUint32 - 1, math.MaxUint32}
}

// groups: those that there are, and some that there are not.
func groups() []uint8 { return []uint8{0, 1, 2, 3, api.Groups, api.Groups + 1, 128, 255} }

// told: all that a history answers, as a text.
func told(h *history.History) string {
	s := fmt.Sprintln(h.Last())
	epochs := edges()
	for epoch := range uint32(api.MaxEpoch + 1) {
		epochs = append(epochs, epoch)
	}
	for _, epoch := range epochs {
		m, isMap := h.Map(epoch)
		x, isInc := h.Inc(epoch)
		s += fmt.Sprintln(epoch, m, isMap, x, isInc)
	}
	for _, group := range groups() {
		s += fmt.Sprintln(group, h.Acting(group), h.Since(group), h.Intervals(group))
	}
	return s
}

// checkRow: h has the maps and the increments of just this row.
func checkRow(t *testing.T, h *history.History, l []api.Inc) {
	t.Helper()
	last := uint32(len(l) + 1)
	if got := h.Last(); got != last {
		t.Fatalf("P5.1: Last behind %d increments: %d", len(l), got)
	}
	for epoch := uint32(1); epoch <= last; epoch++ {
		want, _ := maps.Fold(l[:epoch-1])
		if m, there := h.Map(epoch); m != want || !there {
			t.Fatalf("P5.1: Map(%d): %v, %v; not %v", epoch, m, there, want)
		}
		if epoch == 1 {
			continue
		}
		if x, there := h.Inc(epoch); x != l[epoch-2] || !there {
			t.Fatalf("P5.1: Inc(%d): %v, %v; not %v", epoch, x, there, l[epoch-2])
		}
	}
	for _, epoch := range append(edges(), last+1, last+2) {
		if m, there := h.Map(epoch); m != (api.Map{}) || there {
			t.Fatalf("P5.1: Map(%d), the last one is %d: %v, %v", epoch, last, m, there)
		}
		if x, there := h.Inc(epoch); x != (api.Inc{}) || there {
			t.Fatalf("P5.1: Inc(%d), the last one is %d: %v, %v", epoch, last, x, there)
		}
	}
	if x, there := h.Inc(1); x != (api.Inc{}) || there {
		t.Fatalf("P5.1: Inc(1), the last one is %d: %v, %v", last, x, there)
	}
}

// checkRefused: Add answers this error, and behind it nothing has changed.
func checkRefused(t *testing.T, h *history.History, epoch uint32, x api.Inc, want api.Errno) {
	t.Helper()
	before, last := told(h), h.Last()
	if e := h.Add(epoch, x); e != want {
		t.Fatalf("P5.1: Add(%d, %v), the last one is %d: %v, not %v", epoch, x, last, e, want)
	}
	if after := told(h); after != before {
		t.Fatalf("rule 4: Add(%d, %v), refused, made\n%s of\n%s", epoch, x, after, before)
	}
}

func TestNewHasTheFirstMapAlone(t *testing.T) {
	h := history.New()
	checkRow(t, h, nil)
	if m, there := h.Map(1); m != maps.First() || !there {
		t.Errorf("P5.1: New: Map(1): %v, %v", m, there)
	}
}

func TestAddOfEachKind(t *testing.T) {
	l := []api.Inc{down(2), up(2), weight(4, 3), weight(0, 0), weight(1, api.MaxWeight), none(), up(3), down(0), down(4)}
	h := history.New()
	for i, x := range l {
		grow(t, h, []api.Inc{x})
		checkRow(t, h, l[:i+1])
	}
	want := api.Map{Epoch: 10, Osds: [api.Osds]api.Osd{
		{Up: false, Weight: 0, Host: 0},
		{Up: true, Weight: api.MaxWeight, Host: 1},
		{Up: true, Weight: 8, Host: 2},
		{Up: true, Weight: 8, Host: 3},
		{Up: false, Weight: 3, Host: 0},
	}}
	if m, there := h.Map(10); m != want || !there {
		t.Errorf("P5.1: Map(10): %v, %v; not %v", m, there, want)
	}
	if x, there := h.Inc(2); x != l[0] || !there {
		t.Errorf("P5.1: Inc(2): %v, %v", x, there)
	}
	if x, there := h.Inc(h.Last()); x != l[8] || !there {
		t.Errorf("P5.1: Inc of Last: %v, %v", x, there)
	}
}

func TestAddTakesTheNextEpochAlone(t *testing.T) {
	for _, length := range []int{0, 1, 2, 30, api.MaxEpoch - 2} {
		h := grown(t, row(length, 1))
		last := h.Last()
		for epoch := range last + 1 {
			checkRefused(t, h, epoch, none(), api.ErrOld)
		}
		for _, epoch := range []uint32{last + 2, last + 3, 256 + last + 1, 1<<16 + last + 1, 1 << 31, math.MaxUint32 - 1, math.MaxUint32} {
			checkRefused(t, h, epoch, none(), api.ErrGap)
		}
		if e := h.Add(last+1, down(1)); e != api.OK {
			t.Errorf("P5.1: Add(%d): %v", last+1, e)
		}
		checkRow(t, h, append(row(length, 1), down(1)))
	}
}

func TestAddOfWhatIsThereAlreadyIsOldAlsoIfItIsTheSame(t *testing.T) {
	l := row(12, 2)
	h := grown(t, l)
	for i, x := range l {
		checkRefused(t, h, uint32(i+2), x, api.ErrOld)
	}
}

func TestAddOfWhatIsNoIncrement(t *testing.T) {
	for _, length := range []int{0, 7, api.MaxEpoch - 1} {
		h := grown(t, row(length, 3))
		last := h.Last()
		for _, x := range noIncs() {
			checkRefused(t, h, last+1, x, api.ErrMap)
			for _, old := range []uint32{0, 1, last} {
				checkRefused(t, h, old, x, api.ErrOld)
			}
			for _, gap := range []uint32{last + 2, math.MaxUint32} {
				checkRefused(t, h, gap, x, api.ErrGap)
			}
		}
	}
}

func TestAsManyEpochsAsThereCanBe(t *testing.T) {
	l := row(api.MaxEpoch-1, 4)
	h := grown(t, l)
	if h.Last() != api.MaxEpoch {
		t.Errorf("P5.1: Last: %d", h.Last())
	}
	checkRow(t, h, l)
	for _, x := range []api.Inc{none(), up(0), down(4), weight(2, 5)} {
		checkRefused(t, h, api.MaxEpoch+1, x, api.ErrMap)
		checkRefused(t, h, api.MaxEpoch, x, api.ErrOld)
		checkRefused(t, h, 0, x, api.ErrOld)
		checkRefused(t, h, api.MaxEpoch+2, x, api.ErrGap)
		checkRefused(t, h, math.MaxUint32, x, api.ErrGap)
	}
	checkRow(t, h, l)
}

func TestAMapThatWasAnsweredIsTheCallersOwn(t *testing.T) {
	h := grown(t, row(5, 5))
	before := told(h)
	for epoch := uint32(1); epoch <= h.Last(); epoch++ {
		m, _ := h.Map(epoch)
		m.Epoch = 77
		m.Osds = [api.Osds]api.Osd{}
	}
	if after := told(h); after != before {
		t.Errorf("rule 3: answers, written into, made\n%s of\n%s", after, before)
	}
}

func TestCopyHasTheSame(t *testing.T) {
	for _, length := range []int{0, 1, 9, api.MaxEpoch - 1} {
		h := grown(t, row(length, 6))
		before := told(h)
		c := h.Copy()
		if got := told(c); got != before {
			t.Errorf("P5.1: a copy of %d increments: %s, not %s", length, got, before)
		}
		if got := told(c.Copy()); got != before {
			t.Errorf("P5.1: a copy of a copy of %d increments: %s, not %s", length, got, before)
		}
		if got := told(h); got != before {
			t.Errorf("P5.1: Copy made %s of %s", got, before)
		}
	}
}

func TestACopyGoesItsOwnWay(t *testing.T) {
	for _, length := range []int{0, 1, 9, api.MaxEpoch - 3} {
		common := row(length, 7)
		elder := grown(t, common)
		before := told(elder)
		c := elder.Copy()

		grow(t, c, []api.Inc{down(3), weight(2, 0)})
		checkRow(t, c, append(row(length, 7), down(3), weight(2, 0)))
		if got := told(elder); got != before {
			t.Errorf("P5.1: what was added to the copy made %s of %s", got, before)
		}

		behind := told(c)
		grow(t, elder, []api.Inc{weight(4, 0)})
		checkRow(t, elder, append(row(length, 7), weight(4, 0)))
		if got := told(c); got != behind {
			t.Errorf("P5.1: what was added to the elder one made %s of %s", got, behind)
		}
		checkRefused(t, c, elder.Last(), none(), api.ErrOld)
	}
}

func TestHistoriesAreTheirOwn(t *testing.T) {
	a, b := history.New(), history.New()
	k, l := row(20, 8), row(20, 9)
	for i := range k {
		grow(t, a, k[i:i+1])
		grow(t, b, l[i:i+1])
	}
	checkRow(t, a, k)
	checkRow(t, b, l)
	checkRow(t, history.New(), nil)
}
