package store

import (
	"maps"
	"slices"
	"strings"

	"paddock/api"
)

// perKey is what a key takes of the room beside its bytes.
const perKey = 24

// contents: what is there, by its keys.
type contents map[string]cell

// cell: the bytes of one key.
type cell struct{ bytes string }

// do does writes one behind the other.
func (c contents) do(l []api.Write) {
	for _, w := range l {
		done := c.put
		if w.Drop {
			done = c.drop
		}
		done(w)
	}
}

// put keeps copies: nothing that was handed in is kept.
func (c contents) put(w api.Write) {
	c[strings.Clone(w.Key)] = cell{bytes: strings.Clone(w.B)}
}

func (c contents) drop(w api.Write) { delete(c, w.Key) }

func (c contents) keys() []string { return slices.Sorted(maps.Keys(c)) }

func (c contents) size() int {
	n := perKey * len(c)
	for key, x := range c {
		n += len(key) + len(x.bytes)
	}
	return n
}

// writes is what makes these contents of none.
func (c contents) writes() []api.Write {
	var l []api.Write
	for _, key := range c.keys() {
		l = append(l, api.Write{Key: key, B: c[key].bytes})
	}
	return l
}
