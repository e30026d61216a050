package journal

import (
	"bytes"

	"paddock/api"
	"paddock/bits"
	"paddock/sector"
)

const (
	slots       = 2 // sectors for headers, ahead of the halves
	mark        = "paddock journal"
	numberBytes = 8
	halfBytes   = 1
	placeBytes  = 4
	lengthBytes = 2 // of the length that layer 1 puts ahead of a text
)

// header tells which of a disk's bytes are records. Where none is there yet the zero one stands for it: the first that is written has the number 1.
type header struct {
	number uint64 // one above that of the header ahead of it
	half   int    // 0 or 1
	bytes  int    // so many of that half's first ones are records
	sum    uint64 // of these
}

// slot: two headers that come one behind the other lie in two sectors, so that the earlier one is there until the later one is.
func (h header) slot() int { return int(h.number % slots) }

// follows tells whether h was written later; numbers may go round.
func (h header) follows(other header) bool { return int64(h.number-other.number) > 0 }

// with is a header that tells of one more record.
func (h header) with(rec string) header {
	h.bytes += lengthBytes + len(rec)
	h.sum = bits.Sum(bits.Text(bits.Put(nil, h.sum, numberBytes), rec))
	return h
}

// sheet is the header as bytes. The number stands at both ends: a sector tears into a beginning that is new and a rest that is old, and a whole header that is written over has another number than the new one, so that a torn one has unlike ends.
func (h header) sheet() []byte {
	b := bits.Put([]byte(mark), h.number, numberBytes)
	b = bits.Put(b, uint64(h.half), halfBytes)
	b = bits.Put(b, uint64(h.bytes), placeBytes)
	b = bits.Put(b, h.sum, numberBytes)
	return bits.Put(b, h.number, numberBytes)
}

// headerOf is the header that a sector begins with; false, if that is none.
func headerOf(b []byte) (header, bool) {
	left := b[len(mark):]
	h := header{
		number: number(&left, numberBytes),
		half:   int(number(&left, halfBytes)),
		bytes:  int(number(&left, placeBytes)),
		sum:    number(&left, numberBytes),
	}
	return h, bytes.HasPrefix(b, h.sheet())
}

// number takes the next number off what is left.
func number(left *[]byte, size int) uint64 {
	n, rest, e := bits.Get(*left, size)
	must(e == api.OK, api.ErrForm)
	*left = rest
	return n
}

// newest is the header that counts, the one written last; false, if there is none.
func newest(d *sector.Disk) (header, bool) {
	best, found := header{}, false
	for i := range slots {
		h, is := headerOf(read(d, i))
		if is && h.slot() == i && (!found || h.follows(best)) {
			best, found = h, true
		}
	}
	return best, found
}
