package wire

import (
	"paddock/api"
	"paddock/bits"
)

// passer leaves all as it is.
type passer struct{}

func (passer) number(n uint64, _ int) uint64 { return n }

func (passer) text(s string, _ int) string { return s }

// putter makes bytes. It lets layer 1 put each thing behind nothing: behind what is there, that would be copied each time.
type putter struct {
	made []byte
}

func (p *putter) number(n uint64, bytes int) uint64 {
	p.made = append(p.made, bits.Put(nil, n, bytes)...)
	return n
}

func (p *putter) text(s string, _ int) string {
	p.made = append(p.made, bits.Text(nil, s)...)
	return s
}

const lengthBytes = 2 // ahead of a text

// getter reads bytes. It panics with an api.Errno where they don't hold what is asked for, so that a walk needs no check between its steps; caught makes an error of it.
type getter struct {
	left []byte
}

func (g *getter) number(_ uint64, bytes int) uint64 {
	n, _, e := bits.Get(g.next(bytes), bytes)
	g.pass(bytes, e)
	return n
}

func (g *getter) text(_ string, most int) string {
	s, _, e := bits.GetText(g.next(lengthBytes+most), most)
	g.pass(lengthBytes+len(s), e)
	return s
}

// next is no more of what is left than a read can take: layer 1 copies what it leaves.
func (g *getter) next(bytes int) []byte {
	return g.left[:min(bytes, len(g.left))]
}

func (g *getter) pass(bytes int, e api.Errno) {
	must(e == api.OK, e)
	g.left = g.left[bytes:]
}
