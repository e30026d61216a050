package sector_test

import (
	"fmt"
	"math"
	"testing"

	"paddock/api"
	"paddock/sector"
)

// TestPowerGoesAtThatStep: those ahead of it are done, it and those behind it aren't; Read goes with it, not ahead of it.
func TestPowerGoesAtThatStep(t *testing.T) {
	for at := 1; at <= 12; at++ {
		for _, ahead := range []int{0, 1, 5} {
			d := sector.New(20)
			for i := range ahead {
				write(t, d, 19-i, "ahead")
			}
			d.Power(at)
			for i := 0; i < at-1; i++ {
				if b, e := d.Read(i); len(b) != size || e != api.OK {
					t.Errorf("P13.1: Power(%d): Read ahead of step %d: %v", at, i+1, e)
				}
				write(t, d, i, "done")
			}
			if b, e := d.Read(0); len(b) != size || e != api.OK {
				t.Errorf("P13.1: Power(%d): Read ahead of that step: %v", at, e)
			}
			if e := d.Write(at-1, []byte("not done")); e != api.ErrPower {
				t.Errorf("P13.1: Power(%d): that step: %v", at, e)
			}
			isOff(t, d)
			d.Crash([]uint8{255, 255, 255, 255, 255, 255, 255, 255, 255, 255, 255, 255, 255, 255, 255, 255, 255, 255, 255, 255})
			for i, s := range sectors(t, d) {
				want := noughts
				if i < at-1 {
					want = over("done", noughts)
				}
				if i > 19-ahead {
					want = over("ahead", noughts)
				}
				if s != want {
					t.Errorf("P13.1: Power(%d), %d ahead: sector %d: %q, not %q", at, ahead, i, s, want)
				}
			}
		}
	}
}

// TestEachStepCountsForThePower: those that err too; what is no step doesn't.
func TestEachStepCountsForThePower(t *testing.T) {
	for name, step := range map[string]func(d *sector.Disk) api.Errno{
		"Write":          func(d *sector.Disk) api.Errno { return d.Write(0, []byte("a")) },
		"Flush":          (*sector.Disk).Flush,
		"no such sector": func(d *sector.Disk) api.Errno { return d.Write(2, nil) },
		"too many bytes": func(d *sector.Disk) api.Errno { return d.Write(0, make([]byte, size+1)) },
	} {
		d := sector.New(2)
		d.Power(3)
		for i := range 6 {
			for range 5 {
				d.Read(0)
				d.Read(-1)
				d.Len()
				d.Steps()
			}
			e := step(d)
			if off := e == api.ErrPower; off != (i >= 2) {
				t.Errorf("P13.1: Power(3): %s: step %d: %v", name, i+1, e)
			}
		}
	}
}

// TestTheStepAtWhichThePowerGoesIsNotDone: a Flush keeps nothing, a Write writes nothing.
func TestTheStepAtWhichThePowerGoesIsNotDone(t *testing.T) {
	d := kept(t, full("a"), full("b"))
	write(t, d, 0, full("n"))
	d.Power(1)
	if e := d.Flush(); e != api.ErrPower {
		t.Errorf("P13.1: Flush: %v", e)
	}
	d.Flush()
	d.Crash(nil)
	holds(t, "P13.1: Flush wasn't done", d, full("a"), full("b"))

	write(t, d, 0, full("n"))
	d.Power(1)
	if e := d.Write(0, []byte(full("m"))); e != api.ErrPower {
		t.Errorf("P13.1: Write: %v", e)
	}
	d.Write(1, []byte(full("m")))
	d.Crash([]uint8{255, 255})
	holds(t, "P13.1: Write wasn't done", d, full("n"), full("b"))
}

// TestWhatIsPendingStaysSoWhileItIsOff: a Flush, once it is on again behind a crash, has nothing of it left to keep.
func TestWhatIsPendingStaysSoWhileItIsOff(t *testing.T) {
	for c, want := range map[uint8]string{0: full("a"), 7: over(full("n")[:7], full("a")), 255: full("n")} {
		d := kept(t, full("a"), full("b"))
		write(t, d, 0, full("n"))
		d.Power(1)
		for range 4 {
			d.Flush()
			d.Write(0, []byte(full("m")))
			d.Write(1, []byte(full("m")))
		}
		d.Crash([]uint8{c, 255})
		holds(t, "P13.2", d, want, full("b"))
		flush(t, d)
		holds(t, "P13.2", d, want, full("b"))
	}
}

// TestLaterPowersTakeThePlaceOfEarlierOnes: and count from when they are told.
func TestLaterPowersTakeThePlaceOfEarlierOnes(t *testing.T) {
	for _, c := range []struct {
		first, steps, then int
		goes               int // at which step behind the second Power; 0: it doesn't
	}{
		{1, 0, 0, 0}, {1, 0, -1, 0}, {1, 0, math.MinInt, 0}, {1, 0, 1, 1}, {1, 0, 2, 2}, {1, 0, 9, 9},
		{2, 1, 0, 0}, {2, 1, -5, 0}, {2, 1, 1, 1}, {2, 1, 2, 2}, {2, 1, 3, 3},
		{5, 3, 1, 1}, {5, 3, 2, 2}, {5, 3, 3, 3}, {5, 3, 5, 5}, {5, 3, 0, 0},
		{math.MaxInt, 3, 2, 2}, {3, 2, math.MaxInt, 0}, {math.MaxInt, 3, math.MaxInt, 0},
		{0, 0, 1, 1}, {0, 4, 3, 3}, {-3, 2, 2, 2}, {math.MinInt, 2, 2, 2}, {0, 0, 0, 0},
	} {
		d := sector.New(1)
		d.Power(c.first)
		for range c.steps {
			flush(t, d)
		}
		d.Power(c.then)
		for i := 1; i <= 12; i++ {
			want := api.OK
			if c.goes > 0 && i >= c.goes {
				want = api.ErrPower
			}
			if e := d.Flush(); e != want {
				t.Errorf("P13.1: Power(%d), %d steps, Power(%d): step %d: %v, not %v", c.first, c.steps, c.then, i, e, want)
			}
		}
	}
}

// TestPowersOfMoreStepsThanCome: none wraps round to a step that comes.
func TestPowersOfMoreStepsThanCome(t *testing.T) {
	for _, at := range []int{301, 1 << 31, 1<<32 + 1, math.MaxInt - 299, math.MaxInt - 1, math.MaxInt, 0, -1, -2, -300, -1 << 32, math.MinInt + 1, math.MinInt} {
		d := sector.New(1)
		flush(t, d)
		flush(t, d)
		d.Power(at)
		for i := range 300 {
			if e := d.Flush(); e != api.OK {
				t.Fatalf("P13.1: Power(%d): step %d: %v", at, i+1, e)
			}
		}
		if b, e := d.Read(0); string(b) != noughts || e != api.OK {
			t.Errorf("P13.1: Power(%d): Read: %q, %v", at, b, e)
		}
	}
}

// TestPowerWhileItIsOff: nothing comes of it, then or behind a crash.
func TestPowerWhileItIsOff(t *testing.T) {
	for _, at := range []int{math.MinInt, -1, 0, 1, 2, 3, 50, math.MaxInt} {
		for _, ahead := range []int{0, 1, 2, 3} {
			d := kept(t, full("a"))
			d.Power(1)
			d.Flush()
			for range ahead {
				d.Flush()
			}
			d.Power(at)
			isOff(t, d)
			d.Power(at)
			isOff(t, d)
			d.Crash(nil)
			for i := range 60 {
				if e := d.Flush(); e != api.OK {
					t.Fatalf("P13.2: Power(%d) while it was off: step %d behind the crash: %v", at, i+1, e)
				}
			}
			holds(t, "P13.3", d, full("a"))
		}
	}
}

// TestCrashTakesPowersAway: whether the power has gone, or was to go.
func TestCrashTakesPowersAway(t *testing.T) {
	for at := 1; at < 6; at++ {
		for steps := range 8 {
			d := sector.New(1)
			d.Power(at)
			for range steps {
				d.Flush()
			}
			d.Crash(nil)
			if b, e := d.Read(0); string(b) != noughts || e != api.OK {
				t.Errorf("P13.2: Power(%d), %d steps, Crash: Read: %q, %v", at, steps, b, e)
			}
			for i := range 10 {
				if e := d.Flush(); e != api.OK {
					t.Errorf("P13.2: Power(%d), %d steps, Crash: step %d: %v", at, steps, i+1, e)
				}
			}
			d.Power(2)
			if got := fmt.Sprint(int(d.Flush()), int(d.Flush())); got != "0 131" {
				t.Errorf("P13.1: Power(2) behind a crash: %s", got)
			}
		}
	}
}
