package store

import (
	"cmp"

	"paddock/api"
	"paddock/bits"
)

const (
	mostWrites = 20   // of a transaction
	mostKey    = 20   // bytes of a key
	mostBytes  = 6000 // that a key has
)

// What stands between a key and its bytes.
const (
	puts = iota
	drops
)

const markBytes = 1

func isTransaction(tx []api.Write) bool {
	if len(tx) < 1 || len(tx) > mostWrites {
		return false
	}
	for _, w := range tx {
		if !isWrite(w) {
			return false
		}
	}
	return true
}

func isWrite(w api.Write) bool {
	if len(w.Key) < 1 || len(w.Key) > mostKey {
		return false
	}
	if w.Drop {
		return w.B == ""
	}
	return len(w.B) <= mostBytes
}

// recordOf is writes as a record's bytes.
func recordOf(l []api.Write) string {
	var b []byte
	for _, w := range l {
		b = append(b, bits.Text(nil, w.Key)...)
		b = append(b, bits.Put(nil, markOf(w), markBytes)...)
		b = append(b, bits.Text(nil, w.B)...)
	}
	return string(b)
}

func markOf(w api.Write) uint64 {
	if w.Drop {
		return drops
	}
	return puts
}

// writesOf is the writes of a record; false, if recordOf didn't make it.
func writesOf(rec string) ([]api.Write, bool) {
	var l []api.Write
	for left := []byte(rec); len(left) > 0; {
		w, rest, is := firstOf(left)
		if !is {
			return nil, false
		}
		l, left = append(l, w), rest
	}
	return l, true
}

// firstOf is the write that the bytes begin with, and what is behind it. Beside an error layer 1 tells nothing and takes nothing off: it is enough to look at the errors in the end.
func firstOf(b []byte) (api.Write, []byte, bool) {
	key, b, e := bits.GetText(b, mostKey)
	mark, b, f := bits.Get(b, markBytes)
	text, b, g := bits.GetText(b, mostBytes)
	w := api.Write{Key: key, B: text, Drop: mark == drops}
	return w, b, cmp.Or(e, f, g) == api.OK && mark <= drops && isWrite(w)
}
