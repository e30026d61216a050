// Package bits: sums, mixing, numbers in bytes: see doc/01-bits.md.
package bits

import (
	"paddock/api"
)

const (
	sumStart = 14695981039346656037
	sumTimes = 1099511628211

	mixShift  = 33
	mixFirst  = 0xff51afd7ed558ccd
	mixSecond = 0xc4ceb9fe1a85ec53

	numberBytes = 8     // of a uint64
	lengthBytes = 2     // of the length ahead of a text
	longestText = 65535 // what a length of that many bytes can tell
)

// Sum tells unlike bytes apart: 64 bits that hang on each byte and its place.
func Sum(b []byte) uint64 {
	sum := uint64(sumStart)
	for _, c := range b {
		sum ^= uint64(c)
		sum *= sumTimes
	}
	return sum
}

// Mix spreads a number over all 64 bits; no two numbers come to the same one.
func Mix(x uint64) uint64 {
	x ^= x >> mixShift
	x *= mixFirst
	x ^= x >> mixShift
	x *= mixSecond
	x ^= x >> mixShift
	return x
}

// Hash mixes three numbers into 32 bits; their order counts.
func Hash(a, b, c uint32) uint32 {
	x := Mix(uint64(a))
	x = Mix(x + uint64(b))
	x = Mix(x + uint64(c))
	return uint32(x)
}

// Group tells which group an object is in.
func Group(obj uint8) uint8 {
	return uint8(Mix(uint64(obj)) % api.Groups)
}

// Put answers b with that many of n's lowest bytes behind it, the highest of them first.
func Put(b []byte, n uint64, bytes int) []byte {
	bytes = held(bytes)
	return appendNumber(grown(b, bytes), n, bytes)
}

// Get reads a number of that many bytes; it answers what is behind it too.
func Get(b []byte, bytes int) (uint64, []byte, api.Errno) {
	r := reader{left: b}
	var n uint64
	e := caught(func() { n = r.number(held(bytes)) })
	if e != api.OK {
		return 0, grown(b, 0), e
	}
	return n, grown(r.left, 0), api.OK
}

// Text answers b with the text's length and the text behind it; a text that is too long for that is cut.
func Text(b []byte, s string) []byte {
	s = s[:min(len(s), longestText)]
	out := grown(b, lengthBytes+len(s))
	out = appendNumber(out, uint64(len(s)), lengthBytes)
	return append(out, s...)
}

// GetText reads a text of at most so many bytes; it answers what is behind it too.
func GetText(b []byte, most int) (string, []byte, api.Errno) {
	r := reader{left: b}
	var s string
	e := caught(func() { s = r.text(most) })
	if e != api.OK {
		return "", grown(b, 0), e
	}
	return s, grown(r.left, 0), api.OK
}

// held: a number has no fewer than 0 bytes, and no more than 8.
func held(bytes int) int {
	return min(max(bytes, 0), numberBytes)
}

// grown copies b, with room behind it: an answer shares no memory with what was handed in.
func grown(b []byte, room int) []byte {
	return append(make([]byte, 0, len(b)+room), b...)
}

// appendNumber works on b itself: b is to be the caller's own memory.
func appendNumber(b []byte, n uint64, bytes int) []byte {
	for i := bytes - 1; i >= 0; i-- {
		b = append(b, byte(n>>(8*i)))
	}
	return b
}
