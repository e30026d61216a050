package straw

import (
	"math/bits"
)

const (
	mostTaken = 65536   // the greatest number that Log takes
	mostTold  = 1 << 20 // its logarithm

	logBits  = 16 // of a logarithm, behind its point
	oneShift = 31 // of a number from 1 to below 2, behind its point
	two      = 2 << oneShift
)

// Log is the logarithm to the base 2, times 65536, in whole numbers alone: it is the same on each machine.
func Log(u uint32) int {
	u = min(max(u, 1), mostTaken)
	k := bits.Len32(u) - 1
	f := fraction{x: uint64(u) << (oneShift - k)}
	step := f.step
	for range logBits {
		step()
	}
	return k<<logBits + f.told
}

// fraction works out a logarithm's bits behind its point, the highest first.
type fraction struct {
	x    uint64 // the number whose logarithm is still to be told, from 1 to below 2
	told int    // the bits so far
}

// step tells one more bit: a number squared has twice its logarithm, so that the next bit comes to stand ahead of the point.
func (f *fraction) step() {
	f.x = f.x * f.x >> oneShift
	f.told <<= 1
	if f.x >= two {
		f.x >>= 1
		f.told |= 1
	}
}
