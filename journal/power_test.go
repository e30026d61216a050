package journal_test

import (
	"fmt"
	"math/rand/v2"
	"slices"
	"testing"

	"paddock/api"
	"paddock/journal"
	"paddock/sector"
)

// call: one that may be cut off, and what it makes of the records.
type call struct {
	name string
	do   func(*sector.Disk, *journal.Journal) api.Errno
	make func([]string) []string
}

func appending(rec string) call {
	return call{
		fmt.Sprintf("Append of %d bytes", len(rec)),
		func(_ *sector.Disk, j *journal.Journal) api.Errno { return j.Append(rec) },
		func(l []string) []string { return append(slices.Clone(l), rec) },
	}
}

func replacing(by ...string) call {
	return call{
		fmt.Sprintf("Replace by %d records", len(by)),
		func(_ *sector.Disk, j *journal.Journal) api.Errno { return j.Replace(by) },
		func([]string) []string { return by },
	}
}

func formatting() call {
	return call{
		"Format",
		func(d *sector.Disk, _ *journal.Journal) api.Errno {
			j, e := journal.Format(d)
			if (j == nil) != (e != api.OK) {
				panic("rule 4: an object beside an error, or none beside none")
			}
			return e
		},
		func([]string) []string { return nil },
	}
}

// calls: each kind, of what takes no byte, a few, a sector, and several.
func calls() []call {
	return []call{
		formatting(),
		appending(""), appending("a"), appending(text('b', 62)), appending(text('c', 63)), appending(text('d', 64)), appending(text('e', 300)),
		replacing(), replacing(""), replacing("f"), replacing(text('g', 62)), replacing(text('h', 63), "i"), replacing(text('k', 150), "", text('l', 150)),
	}
}

// scenes: what may lie on a disk, with sectors that are begun, full, and taken before.
func scenes() [][]call {
	return [][]call{
		{},
		{appending("")},
		{appending("has")},
		{appending(text('m', 62))},
		{appending(text('n', 50)), appending("o")},
		{appending(text('p', 200)), appending(text('q', 120)), appending("")},
		{appending(text('r', 300)), replacing("s")},
		{appending(text('t', 300)), replacing(text('u', 70)), appending("v")},
		{appending(text('w', 300)), formatting()},
		{appending(text('x', 100)), replacing(text('y', 250)), replacing(), appending("z")},
	}
}

const sectorsOfScenes = 40

// scene: a disk on which these calls were done, and its records. Each call has a journal that was opened anew: Format leaves the one before it behind.
func scene(t *testing.T, l []call) (*sector.Disk, []string) {
	t.Helper()
	d, _ := with(t, sectorsOfScenes)
	var has []string
	for _, c := range l {
		j, _ := open(t, d)
		if e := c.do(d, j); e != api.OK {
			t.Fatalf("P14.2: %s: %v", c.name, e)
		}
		has = c.make(has)
	}
	return d, has
}

// edges: the choices that the document speaks of, all alike, few, many, and unlike ones side by side.
func edges() [][]uint8 {
	l := [][]uint8{nil}
	for _, c := range []uint8{0, 1, 20, 40, 63, 64, 255} {
		for _, n := range []int{1, 2, 3, 50} {
			l = append(l, slices.Repeat([]uint8{c}, n))
		}
		for _, other := range []uint8{0, 1, 30, 63, 64, 255} {
			l = append(l, []uint8{c, other}, []uint8{other, c, c, c}, []uint8{c, c, other}, []uint8{other, other, c, other, c})
		}
	}
	return l
}

// tooLong is no record, and tooMany have no room: a broken journal speaks of neither.
var (
	tooLong = text('a', longest+1)
	tooMany = make([]string, 10000)
)

// isBroken: it tells ErrPower to all, whatever the disk goes through, and changes nothing on it.
func isBroken(t *testing.T, d *sector.Disk, j *journal.Journal) {
	t.Helper()
	steps := d.Steps()
	for _, e := range []api.Errno{
		j.Append(""), j.Append("a"), j.Append(tooLong[1:]), j.Append(tooLong),
		j.Replace(nil), j.Replace([]string{"a"}), j.Replace([]string{tooLong}), j.Replace(tooMany),
	} {
		if e != api.ErrPower {
			t.Fatalf("P14.3: a broken one told %v", e)
		}
	}
	if !j.Broken() || d.Steps() != steps {
		t.Fatalf("P14.3: broken: %v; %d steps", j.Broken(), d.Steps()-steps)
	}
}

// cut does a call with the power going at a step; true, if it went in the call. Behind it there is what there was, or what the call makes, and a call that told OK is there.
func cut(t *testing.T, d *sector.Disk, has []string, c call, at int, choices []uint8) (bool, []string) {
	t.Helper()
	j, _ := open(t, d)
	room := j.Room()
	d.Power(at)
	e := c.do(d, j)
	where := fmt.Sprintf("P14.3: %s, cut at step %d, choices %v", c.name, at, choices)
	if e != api.OK && e != api.ErrPower {
		t.Fatalf("%s: %v", where, e)
	}
	went := e == api.ErrPower
	if went && c.name != "Format" {
		if l := j.All(); !slices.Equal(l, has) || j.Room() != room {
			t.Fatalf("%s: the broken one has %q", where, l)
		}
		isBroken(t, d, j)
	}
	if went {
		refuses(t, where, d, api.ErrPower)
	}
	d.Crash(choices)
	x, l, e := journal.Open(d)
	if x == nil || e != api.OK {
		t.Fatalf("%s: Open: %v", where, e)
	}
	next := c.make(has)
	if !slices.Equal(l, next) && (!went || !slices.Equal(l, has)) {
		t.Fatalf("%s: %q, neither %q nor %q", where, l, has, next)
	}
	if went && c.name != "Format" {
		isBroken(t, d, j)
	}
	return went, l
}

// goesOn: whatever a cut left on the disk, what comes behind it is as on any other.
func goesOn(t *testing.T, d *sector.Disk, has []string) {
	t.Helper()
	j, _ := open(t, d)
	want := append(slices.Clone(has), "on", "", text('Z', 100))
	for _, rec := range want[len(has):] {
		if e := j.Append(rec); e != api.OK {
			t.Fatalf("P14.2: behind a cut: %v", e)
		}
	}
	holds(t, "P14.3: behind a cut", d, j, want...)
	kept(t, "P14.3: behind a cut", d, want...)
	if e := j.Replace([]string{"new", text('Y', 90)}); e != api.OK {
		t.Fatalf("P14.2: behind a cut: %v", e)
	}
	kept(t, "P14.3: behind a cut", d, "new", text('Y', 90))
}

// TestCutAtEachStep: each call, on each scene, at each of its steps, with all those choices; both ends of it are met.
func TestCutAtEachStep(t *testing.T) {
	for _, s := range scenes() {
		for _, c := range calls() {
			var old, new int
			for at, went := 1, true; went; at++ {
				for _, choices := range edges() {
					d, has := scene(t, s)
					var l []string
					went, l = cut(t, d, has, c, at, choices)
					if slices.Equal(l, has) {
						old++
					} else {
						new++
					}
					if at <= 4 && len(choices)%3 == 1 {
						goesOn(t, d, l)
					}
				}
			}
			_, has := scene(t, s)
			if alike := slices.Equal(has, c.make(has)); old == 0 || (new == 0) != alike {
				t.Errorf("P14.3: %s: %d times as it was, %d times as it is then", c.name, old, new)
			}
		}
	}
}

// TestCutAtTheLastFlush: of the last sector that is written any number of bytes may be there.
func TestCutAtTheLastFlush(t *testing.T) {
	for _, s := range scenes() {
		for _, c := range calls() {
			d, _ := scene(t, s)
			j, _ := open(t, d)
			steps := d.Steps()
			c.do(d, j)
			last := d.Steps() - steps
			for choice := range 256 {
				d, has := scene(t, s)
				went, l := cut(t, d, has, c, last, []uint8{uint8(choice)})
				if !went {
					t.Fatalf("P14.3: %s: the power didn't go at step %d", c.name, last)
				}
				if choice == 0 && !slices.Equal(l, has) || choice == 255 && !slices.Equal(l, c.make(has)) {
					t.Errorf("P14.3: %s, choice %d: %q", c.name, choice, l)
				}
			}
		}
	}
}

// TestCutFormatOfADiskOfNoughts: no journal yet, or one without records; Format goes on such a disk as on any.
func TestCutFormatOfADiskOfNoughts(t *testing.T) {
	for _, n := range []int{8, 9, 40, 1000} {
		var none, empty int
		for at, went := 1, true; went; at++ {
			for choice := range 256 {
				for _, many := range []int{1, 2, 9} {
					d := sector.New(n)
					d.Power(at)
					j, e := journal.Format(d)
					went = e == api.ErrPower
					if e != api.OK && !went || (j == nil) != went {
						t.Fatalf("P14.1: Format, cut at step %d: %v, %v", at, j, e)
					}
					d.Crash(slices.Repeat([]uint8{uint8(choice)}, many))
					x, l, e := journal.Open(d)
					switch {
					case x == nil && len(l) == 0 && e == api.ErrForm && went:
						none++
					case x != nil && len(l) == 0 && e == api.OK && len(x.All()) == 0:
						empty++
					default:
						t.Fatalf("P14.1: Format, cut at step %d, choice %d: %v, %q, %v", at, choice, x, l, e)
					}
					kept(t, "P14.1", d, records(t, format(t, d))...)
				}
			}
		}
		if none == 0 || empty == 0 {
			t.Errorf("P14.1: %d times none, %d times one without records", none, empty)
		}
	}
}

func records(t *testing.T, j *journal.Journal) []string {
	t.Helper()
	if l := j.All(); len(l) > 0 {
		t.Fatalf("P14.1: a new one has %q", l)
	}
	return nil
}

// TestFormatsCutOneBehindTheOther: on a disk of noughts, each pair of tears.
func TestFormatsCutOneBehindTheOther(t *testing.T) {
	for one := range 65 {
		for two := range 65 {
			d := sector.New(8)
			for _, tear := range []int{one, two} {
				choice := uint8(tear)
				if tear == 64 {
					choice = 255
				}
				before, _, _ := journal.Open(d)
				d.Power(3) // the last step of a Format
				if j, e := journal.Format(d); j != nil || e != api.ErrPower {
					t.Fatalf("the test: a Format has three steps: %v", e)
				}
				d.Crash([]uint8{choice})
				j, l, e := journal.Open(d)
				if len(l) > 0 || j == nil && (e != api.ErrForm || before != nil) || j != nil && e != api.OK {
					t.Fatalf("P14.1: tears %d, %d: %v, %q, %v", one, two, j, l, e)
				}
			}
			kept(t, "P14.1", d, records(t, format(t, d))...)
		}
	}
}

// TestOpenWithThePowerGoing: at each step that it might have; the disk is as it was.
func TestOpenWithThePowerGoing(t *testing.T) {
	for _, s := range scenes() {
		for at := 1; at < 6; at++ {
			for _, choices := range edges() {
				d, has := scene(t, s)
				d.Power(at)
				j, l, e := journal.Open(d)
				if e == api.OK && !slices.Equal(l, has) || e != api.OK && (j != nil || len(l) > 0 || e != api.ErrPower) {
					t.Fatalf("P14.3: Open, the power going at step %d: %q, %v", at, l, e)
				}
				d.Crash(choices)
				if _, l := open(t, d); !slices.Equal(l, has) {
					t.Fatalf("P14.3: Open, the power going at step %d: %q, not %q", at, l, has)
				}
			}
		}
	}
}

// TestCrashBehindACall: what was told to be kept is, with the power on or off in between, and the journal needn't be opened anew.
func TestCrashBehindACall(t *testing.T) {
	for _, s := range scenes() {
		for _, c := range calls()[1:] {
			for _, choices := range edges() {
				d, has := scene(t, s)
				j, _ := open(t, d)
				if e := c.do(d, j); e != api.OK {
					t.Fatal(e)
				}
				d.Crash(choices)
				holds(t, "P14.3", d, j, c.make(has)...)
				if e := j.Append("next"); e != api.OK {
					t.Fatal(e)
				}
				off(d)
				d.Crash(choices)
				want := append(slices.Clone(c.make(has)), "next")
				holds(t, "P14.3", d, j, want...)
				kept(t, "P14.3", d, want...)
			}
		}
	}
}

// TestBrokenStays: behind a Crash too; the one that is opened then isn't.
func TestBrokenStays(t *testing.T) {
	d, j := with(t, 40, "a", "b")
	if j.Broken() {
		t.Fatal("P14.3: a new one is broken")
	}
	off(d)
	if j.Broken() {
		t.Error("P14.3: no call was cut off yet")
	}
	if e := j.Append(text('x', longest+1)); e != api.ErrForm || j.Broken() {
		t.Errorf("P14.2: %v", e)
	}
	if e := j.Replace(make([]string, 1000)); e != api.ErrRoom || j.Broken() {
		t.Errorf("P14.2: %v", e)
	}
	if e := j.Append("c"); e != api.ErrPower || !j.Broken() {
		t.Errorf("P14.3: %v", e)
	}
	for range 2 {
		isBroken(t, d, j)
		d.Crash([]uint8{255, 255})
		isBroken(t, d, j)
		if l := j.All(); !slices.Equal(l, []string{"a", "b"}) {
			t.Errorf("P14.3: %q", l)
		}
		x, l := open(t, d)
		if x.Broken() || !slices.Equal(l, []string{"a", "b"}) {
			t.Errorf("P14.3: opened: %q", l)
		}
	}
}

// TestCutsOneBehindTheOther: two and three, at each step, with unlike choices.
func TestCutsOneBehindTheOther(t *testing.T) {
	some := []call{appending("a"), appending(text('b', 130)), replacing(), replacing(text('c', 70), "d"), formatting()}
	tears := [][]uint8{nil, {255}, {63, 63}, {20, 255, 20}, {255, 0, 30, 255}, {64, 40}, {1, 255, 255}}
	for _, s := range [][]call{{}, {appending(text('e', 100)), replacing(text('f', 50), "g")}} {
		for _, one := range some {
			for _, two := range some {
				for at := 1; at < 8; at++ {
					for then := 1; then < 8; then++ {
						for i, choices := range tears {
							d, has := scene(t, s)
							_, has = cut(t, d, has, one, at, choices)
							_, has = cut(t, d, has, two, then, tears[(i*3+at)%len(tears)])
							_, has = cut(t, d, has, one, then, tears[(i+then)%len(tears)])
							kept(t, "P14.3", d, has...)
						}
					}
				}
			}
		}
	}
}

// TestCutOfFullOnes: as much as just fits is replaced by as much, from either half of the disk, and filled up to the last byte.
func TestCutOfFullOnes(t *testing.T) {
	for _, n := range []int{10, 11, 12, 13, 40, 41} {
		full := func(letter byte) string { return text(letter, limit(n)-16) }
		for turns := range 2 {
			for _, c := range []call{replacing(full('n')), replacing("n"), replacing(), appending(text('n', limit(n)-33)), formatting()} {
				for at, went := 1, true; went; at++ {
					for _, choices := range [][]uint8{nil, {255}, {0, 255}, slices.Repeat([]uint8{30}, 40), slices.Repeat([]uint8{255}, 40)} {
						d, j := with(t, n)
						for turn := range turns + 1 {
							if e := j.Replace([]string{full(byte('a' + turn))}); e != api.OK {
								t.Fatalf("P14.2: %v", e)
							}
						}
						has := []string{full(byte('a' + turns))}
						if sum(c.make(has)) > limit(n) { // it is to be appended behind something short
							has = []string{"s"}
							if e := j.Replace(has); e != api.OK {
								t.Fatalf("P14.2: %v", e)
							}
						}
						went, has = cut(t, d, has, c, at, choices)
						kept(t, "P14.3", d, has...)
					}
				}
			}
		}
	}
}

// TestLongRowsOfCuts: whatever is cut, wherever, with whatever choices, on the same disk.
func TestLongRowsOfCuts(t *testing.T) {
	r := rand.New(rand.NewPCG(14, 3))
	for range 150 {
		n := 30 + r.IntN(30)
		d, _ := with(t, n)
		var has []string
		for range 60 {
			some := func() string { return text(byte(r.UintN(256)), r.IntN(1+r.IntN(150))) }
			c := appending(some())
			switch r.IntN(10) {
			case 0:
				c = formatting()
			case 1, 2, 3:
				c = replacing(slices.Repeat([]string{some()}, r.IntN(3))...)
			}
			if sum(c.make(has)) > limit(n) {
				c = replacing(some())
			}
			choices := make([]uint8, r.IntN(12))
			for i := range choices {
				choices[i] = uint8(r.UintN(256))
				if r.IntN(3) == 0 {
					choices[i] = []uint8{0, 255}[r.IntN(2)]
				}
			}
			_, has = cut(t, d, has, c, r.IntN(10), choices)
		}
		kept(t, "P14.3", d, has...)
	}
}
