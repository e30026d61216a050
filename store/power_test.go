package store_test

import (
	"fmt"
	"math/rand/v2"
	"slices"
	"testing"

	"paddock/api"
	"paddock/sector"
	"paddock/store"
)

// edges: the choices that the document speaks of, few and many, all alike, and unlike ones side by side.
func edges() [][]uint8 {
	l := [][]uint8{nil}
	for _, c := range []uint8{0, 1, 30, 63, 64, 255} {
		for _, n := range []int{1, 2, 60} {
			l = append(l, slices.Repeat([]uint8{c}, n))
		}
		for _, other := range []uint8{0, 1, 63, 64, 255} {
			l = append(l, []uint8{c, other}, []uint8{other, c, c, c}, slices.Repeat([]uint8{c, other, c}, 20))
		}
	}
	return l
}

const sectorsOfScenes = 32

// transactions: each kind of write, of few bytes and of several sectors, one and many, such as change nothing, and such as are too long for a record.
func transactions() [][]api.Write {
	return [][]api.Write{
		{put("a", "1")},
		{put("b", "")},
		{drop("a")},
		{drop("none")},
		{put("a", "2"), drop("b"), put("c", text('c', 60))},
		{put("a", text('d', 200)), put("b", text('e', 120))},
		{put("big", text('f', 16*sectorsOfScenes-27)), drop("a"), drop("b"), drop("c")},
		{drop("a"), drop("b"), drop("c"), drop("big")},
		append(many(13), drop("a"), drop("b"), drop("c"), drop("big")),
		append(slices.Repeat([]api.Write{put("a", text('g', mostBytes))}, 4), put("a", "3"), drop("big")),
	}
}

// scenes: what may lie on a disk, with journals that have room, and such as have little or none.
func scenes() [][][]api.Write {
	turn := func(i int) []api.Write { return []api.Write{put("a", text(byte('h'+i), 40))} }
	var l [][][]api.Write
	for _, n := range []int{0, 1, 4, 8, 10, 11, 12} {
		var scene [][]api.Write
		for i := range n {
			scene = append(scene, turn(i))
		}
		l = append(l, scene)
	}
	return append(l,
		[][]api.Write{{put("a", ""), put("b", text('b', 10)), put("c", "3")}},
		[][]api.Write{{put("big", text('q', 16*sectorsOfScenes-27))}},
		[][]api.Write{{put("big", text('q', 16*sectorsOfScenes-27))}, {put("big", text('r', 16*sectorsOfScenes-27))}},
	)
}

// whatever: transactions, such as have no room, and such as are none.
var whatever = [][]api.Write{
	{put("a", "1")}, {drop("a")}, {drop("none")}, many(20),
	nil, {}, many(21), {put("", "")}, {{Key: "a", B: "b", Drop: true}}, {put("a", text('b', mostBytes+1))},
	{put("a", text('b', mostBytes)), put("b", text('b', mostBytes)), put("c", text('c', mostBytes))},
}

// isBroken: it tells ErrPower to each Do, of whatever, and stays what it was; it writes nothing.
func isBroken(t *testing.T, d *sector.Disk, s *store.Store, was model) {
	t.Helper()
	steps := d.Steps()
	for _, tx := range whatever {
		if e := s.Do(tx); e != api.ErrPower {
			t.Fatalf("P15.3: a broken one told %v", e)
		}
	}
	if !s.Broken() || d.Steps() != steps {
		t.Fatalf("P15.3: broken: %v; %d steps", s.Broken(), d.Steps()-steps)
	}
	holds(t, "P15.3: a broken one", s, was)
}

// cut opens the store, and does a transaction with the power going at a step; true, if it went. Behind a Crash and Open there is what was, or that with the whole transaction; what was told to be done is.
func cut(t *testing.T, d *sector.Disk, was model, tx []api.Write, at int, choices []uint8) (bool, model) {
	t.Helper()
	s := opening(t, d)
	d.Power(at)
	e := s.Do(tx)
	where := fmt.Sprintf("P15.3: %d writes, cut at step %d, choices %v", len(tx), at, choices)
	if e != api.OK && e != api.ErrPower {
		t.Fatalf("%s: %v", where, e)
	}
	next := was.after(tx...)
	went := e == api.ErrPower
	if went {
		isBroken(t, d, s, was)
		refuses(t, where, d, api.ErrPower)
	} else {
		holds(t, where, s, next)
	}
	d.Crash(choices)
	got := told(t, opening(t, d))
	if !got.is(next) && (!went || !got.is(was)) {
		t.Fatalf("%s: %v, neither %v nor %v", where, got, was, next)
	}
	if went {
		isBroken(t, d, s, was)
	}
	return went, got
}

// goesOn: whatever a cut left on the disk, what comes behind it is as on any other.
func goesOn(t *testing.T, d *sector.Disk, has model) {
	t.Helper()
	s := opening(t, d)
	for _, tx := range [][]api.Write{{drop("big"), put("on", "1")}, {put("a", text('y', 30))}, {put("a", text('z', 60)), drop("b"), drop("c")}} {
		doing(t, s, tx...)
		has = has.after(tx...)
		holds(t, "P15.3: behind a cut", s, has)
		kept(t, "P15.3: behind a cut", d, has)
	}
}

// TestCutAtEachStep: each transaction, on each scene, at each of its steps, with all those choices; both ends of it are met, and so are journals that make room.
func TestCutAtEachStep(t *testing.T) {
	appended, made := 0, 0
	for _, scene := range scenes() {
		for _, tx := range transactions() {
			d, s, was := with(t, sectorsOfScenes, scene...)
			next := was.after(tx...)
			if !next.fits(sectorsOfScenes) {
				continue
			}
			before := records(t, d)
			doing(t, s, tx...)
			if records(t, d) > before {
				appended++
			} else {
				made++
			}
			var old, new int
			for at, went := 1, true; went; at++ {
				for i, choices := range edges() {
					d, _, _ := with(t, sectorsOfScenes, scene...)
					var got model
					went, got = cut(t, d, was, tx, at, choices)
					if got.is(was) {
						old++
					} else {
						new++
					}
					if i%9 == at%9 {
						goesOn(t, d, got)
					}
				}
			}
			if old == 0 || (new == 0) != was.is(next) {
				t.Errorf("P15.3: %d times as it was, %d times as it is then", old, new)
			}
		}
	}
	if appended < 20 || made < 20 {
		t.Errorf("the test: room was there %d times, and made %d times", appended, made)
	}
}

// TestCutAtTheLastStep: of what was written last any number of bytes may be there.
func TestCutAtTheLastStep(t *testing.T) {
	for _, scene := range scenes()[4:] {
		for _, tx := range transactions() {
			d, s, was := with(t, sectorsOfScenes, scene...)
			next := was.after(tx...)
			if !next.fits(sectorsOfScenes) {
				continue
			}
			steps := d.Steps()
			doing(t, s, tx...)
			last := d.Steps() - steps
			for choice := range 256 {
				d, _, _ := with(t, sectorsOfScenes, scene...)
				went, got := cut(t, d, was, tx, last, []uint8{uint8(choice)})
				if !went {
					t.Fatalf("P15.3: the power didn't go at step %d", last)
				}
				if choice == 0 && !got.is(was) || choice == 255 && !got.is(next) {
					t.Errorf("P15.3: choice %d: %v", choice, got)
				}
			}
		}
	}
}

// cutMake makes a store with the power going at a step; true, if it went.
func cutMake(t *testing.T, d *sector.Disk, at int, choices []uint8) bool {
	t.Helper()
	d.Power(at)
	s, e := store.Make(d)
	if e != api.OK && e != api.ErrPower || (s == nil) != (e != api.OK) {
		t.Fatalf("P15.1: Make, cut at step %d: %v, %v", at, s, e)
	}
	d.Crash(choices)
	return e == api.ErrPower
}

// TestCutMakeOfADiskOfNoughts: none yet, or an empty one; Make goes on such a disk as on any.
func TestCutMakeOfADiskOfNoughts(t *testing.T) {
	for _, n := range []int{32, 33, 1000} {
		var none, empty int
		for at, went := 1, true; went; at++ {
			for choice := range 256 {
				for _, few := range []int{1, 2, 9} {
					d := sector.New(n)
					went = cutMake(t, d, at, slices.Repeat([]uint8{uint8(choice)}, few))
					s, e := store.Open(d)
					switch {
					case s == nil && e == api.ErrForm && went:
						none++
					case s != nil && e == api.OK && told(t, s).is(model{}):
						empty++
					default:
						t.Fatalf("P15.1: Make, cut at step %d, choice %d: %v, %v", at, choice, s, e)
					}
					s = making(t, d)
					doing(t, s, put("a", "1"))
					kept(t, "P15.1", d, model{"a": "1"})
				}
			}
		}
		if none == 0 || empty == 0 {
			t.Errorf("P15.1: %d times none, %d times an empty one", none, empty)
		}
	}
}

// TestCutMakeOfOneThatHadAStore: what that had, or an empty one.
func TestCutMakeOfOneThatHadAStore(t *testing.T) {
	var old, new int
	for _, scene := range scenes() {
		for at, went := 1, true; went; at++ {
			for _, choices := range edges() {
				d, _, was := with(t, sectorsOfScenes, scene...)
				went = cutMake(t, d, at, choices)
				got := told(t, opening(t, d))
				if !got.is(model{}) && (!went || !got.is(was)) {
					t.Fatalf("P15.1: Make, cut at step %d, choices %v: %v, not %v", at, choices, got, was)
				}
				if got.is(was) {
					old++
				} else {
					new++
				}
				goesOn(t, d, got)
				making(t, d)
				kept(t, "P15.1", d, model{})
			}
		}
	}
	if old == 0 || new == 0 {
		t.Errorf("P15.1: %d times as it was, %d times empty", old, new)
	}
}

// TestOpenWithThePowerGoing: at each step that it might have; the disk is as it was.
func TestOpenWithThePowerGoing(t *testing.T) {
	for _, scene := range scenes() {
		for at := 1; at < 6; at++ {
			for _, choices := range edges() {
				d, _, was := with(t, sectorsOfScenes, scene...)
				d.Power(at)
				s, e := store.Open(d)
				if e != api.OK && (s != nil || e != api.ErrPower) {
					t.Fatalf("P15.3: Open, the power going at step %d: %v, %v", at, s, e)
				}
				if e == api.OK {
					holds(t, "P15.3: Open", s, was)
				}
				d.Crash(choices)
				holds(t, "P15.3: behind an Open", opening(t, d), was)
			}
		}
	}
}

// TestCrashBehindADo: what was told to be done is, with the power on or off in between, and the store needn't be opened anew.
func TestCrashBehindADo(t *testing.T) {
	for _, scene := range scenes() {
		for _, tx := range transactions() {
			for _, choices := range edges() {
				d, s, m := with(t, sectorsOfScenes, scene...)
				if !m.after(tx...).fits(sectorsOfScenes) {
					continue
				}
				doing(t, s, tx...)
				m = m.after(tx...)
				d.Crash(choices)
				holds(t, "P15.3", s, m)
				doing(t, s, drop("a"), drop("big"))
				doing(t, s, put("next", "1"))
				m = m.after(drop("a"), drop("big"), put("next", "1"))
				off(d)
				d.Crash(choices)
				if s.Broken() {
					t.Fatal("P15.3: no Do was cut off")
				}
				holds(t, "P15.3", s, m)
				kept(t, "P15.3", d, m)
			}
		}
	}
}

// TestBrokenStays: behind a Crash too; the one that is opened then isn't.
func TestBrokenStays(t *testing.T) {
	d, s, m := with(t, 40, []api.Write{put("a", "1")}, []api.Write{put("b", "2")})
	off(d)
	if s.Broken() {
		t.Error("P15.3: no Do was cut off yet")
	}
	holds(t, "P15.3", s, m)
	if e := s.Do([]api.Write{put("c", "3")}); e != api.ErrPower || !s.Broken() {
		t.Errorf("P15.3: %v", e)
	}
	for range 2 {
		isBroken(t, d, s, m)
		d.Crash([]uint8{255, 255})
		isBroken(t, d, s, m)
		x := opening(t, d)
		holds(t, "P15.3: opened", x, m)
		doing(t, x, put("b", "2"))
	}
}

// TestAStoreThatNobodyMade: it has nothing, and takes nothing.
func TestAStoreThatNobodyMade(t *testing.T) {
	var s store.Store
	if e := s.Do([]api.Write{put("a", "1")}); e != api.ErrPower || !s.Broken() {
		t.Errorf("rule 1: %v, broken: %v", e, s.Broken())
	}
	if b, there := s.Get("a"); b != "" || there || len(s.Keys()) > 0 || s.Size() != 0 {
		t.Errorf("rule 1: %q, %v, %q, %d", b, there, s.Keys(), s.Size())
	}
}

// TestCutsOneBehindTheOther: three on one disk, at each step, with unlike choices.
func TestCutsOneBehindTheOther(t *testing.T) {
	tears := [][]uint8{nil, {255}, {63, 63}, slices.Repeat([]uint8{20, 255}, 20), {255, 0, 30, 255}, {64, 40}, slices.Repeat([]uint8{255}, 30)}
	some := transactions()[:8]
	for _, scene := range [][][]api.Write{{}, scenes()[3], scenes()[8]} {
		for i, one := range some {
			for k, two := range some {
				for at := 1; at < 8; at++ {
					for then := 1; then < 8; then += 2 {
						d, _, has := with(t, sectorsOfScenes, scene...)
						for turn, tx := range [][]api.Write{one, two, one} {
							if !has.after(tx...).fits(sectorsOfScenes) {
								continue
							}
							_, has = cut(t, d, has, tx, []int{at, then, then}[turn], tears[(i*3+k+at+turn)%len(tears)])
						}
						kept(t, "P15.3", d, has)
					}
				}
			}
		}
	}
}

// row: transactions of which each one can be told from what is there behind it, on keys that they share.
func row(n int) [][]api.Write {
	var l [][]api.Write
	for i := range n {
		tx := []api.Write{put("turn", fmt.Sprint(i)), put(fmt.Sprint("k", i%5), text(byte('a'+i%20), 7*(i%9)))}
		if i%3 == 0 {
			tx = append(tx, drop(fmt.Sprint("k", (i+2)%5)))
		}
		l = append(l, tx)
	}
	return l
}

// TestAllOrNothingInOrder: a row of transactions, cut at each step of all of it: there is what those that were told to be done made, in order, or that and the one that was cut, and nothing of what comes behind it.
func TestAllOrNothingInOrder(t *testing.T) {
	for _, n := range []int{32, 33, 60} {
		l := row(30)
		behind := []model{{}}
		for _, tx := range l {
			behind = append(behind, behind[len(behind)-1].after(tx...))
		}
		for at, went := 1, true; went; at++ {
			for _, choices := range [][]uint8{nil, {255}, {63, 1, 64}, {30, 255, 30, 255}, slices.Repeat([]uint8{255}, 20)} {
				d, s, _ := with(t, n)
				d.Power(at)
				done := 0
				for _, tx := range l {
					if s.Do(tx) == api.OK {
						done++
					}
				}
				went = done < len(l)
				d.Crash(choices)
				got := told(t, opening(t, d))
				if !got.is(behind[done]) && (!went || !got.is(behind[done+1])) {
					t.Fatalf("P15.4: %d sectors, cut at step %d behind %d transactions: %v", n, at, done, got)
				}
				if s.Broken() != went {
					t.Fatalf("P15.3: broken: %v", s.Broken())
				}
			}
		}
	}
}

// TestLongRowsOfCuts: whatever is cut, wherever, with whatever choices, on the same disk, Make among it.
func TestLongRowsOfCuts(t *testing.T) {
	r := rand.New(rand.NewPCG(15, 5))
	for range 60 {
		n := 32 + r.IntN(20)
		d, _, has := with(t, n)
		for range 60 {
			choices := make([]uint8, r.IntN(20))
			for i := range choices {
				choices[i] = uint8(r.UintN(256))
				if r.IntN(3) == 0 {
					choices[i] = []uint8{0, 255}[r.IntN(2)]
				}
			}
			if r.IntN(15) == 0 {
				went := cutMake(t, d, r.IntN(5), choices)
				got := told(t, opening(t, d))
				if !got.is(model{}) && (!went || !got.is(has)) {
					t.Fatalf("P15.1: Make: %v, not %v", got, has)
				}
				has = got
				continue
			}
			var tx []api.Write
			for range 1 + r.IntN(6) {
				key := fmt.Sprint("k", r.IntN(6))
				if r.IntN(3) == 0 {
					tx = append(tx, drop(key))
				} else {
					tx = append(tx, put(key, text(byte(r.UintN(256)), r.IntN(1+r.IntN(200)))))
				}
			}
			if has.after(tx...).fits(n) {
				_, has = cut(t, d, has, tx, r.IntN(16), choices)
			}
		}
		kept(t, "P15.3", d, has)
	}
}
