package journal

import (
	"slices"

	"paddock/api"
	"paddock/bits"
	"paddock/sector"
)

const sectorBytes = 64

// must panics with e, which caught makes an error of.
func must(holds bool, e api.Errno) {
	if !holds {
		panic(e)
	}
}

// caught answers the error that do panicked with. Any other panic would be a fault of this package: it isn't hidden as an error.
func caught(do func()) (e api.Errno) {
	defer func() {
		if told := recover(); told != nil {
			e = told.(api.Errno)
		}
	}()
	do()
	return api.OK
}

// read, write and flush panic with the disk's error: nothing is done behind one.

func read(d *sector.Disk, i int) []byte {
	b, e := d.Read(i)
	must(e == api.OK, e)
	return b
}

func write(d *sector.Disk, i int, b []byte) {
	e := d.Write(i, b)
	must(e == api.OK, e)
}

func flush(d *sector.Disk) {
	e := d.Flush()
	must(e == api.OK, e)
}

// firstOf is a half's first sector. A half has one sector fewer than half of the disk: the slots are ahead of both.
func firstOf(d *sector.Disk, half int) int {
	return slots + half*(d.Len()/2-slots/2)
}

// lay writes b behind what h tells of. What h tells of in the first sector is written once more as it is, so that no tear can touch it.
func lay(d *sector.Disk, h header, b []byte) {
	i := firstOf(d, h.half) + h.bytes/sectorBytes
	b = append(read(d, i)[:h.bytes%sectorBytes], b...)
	for piece := range slices.Chunk(b, sectorBytes) {
		write(d, i, piece)
		i++
	}
}

// sheetOf is records as bytes, each behind its length.
func sheetOf(l []string) []byte {
	var b []byte
	for _, rec := range l {
		b = append(b, bits.Text(nil, rec)...)
	}
	return b
}

// recordsOf is the records that h tells of; it panics, if no journal wrote them.
func recordsOf(d *sector.Disk, h header) []string {
	must(h.half <= 1 && h.bytes <= limit(d), api.ErrForm)
	var l []string
	told := header{number: h.number, half: h.half}
	for left := bytesOf(d, h); len(left) > 0; {
		rec, rest, e := bits.GetText(left, longest)
		must(e == api.OK, api.ErrForm)
		l, told, left = append(l, rec), told.with(rec), rest
	}
	must(told == h, api.ErrForm)
	return l
}

// bytesOf is the bytes that h tells of.
func bytesOf(d *sector.Disk, h header) []byte {
	var b []byte
	for i := firstOf(d, h.half); len(b) < h.bytes; i++ {
		b = append(b, read(d, i)...)
	}
	return b[:h.bytes]
}
