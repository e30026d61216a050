package place

import (
	"paddock/api"
	"paddock/maps"
	"paddock/straw"
)

// candidate is a daemon that may be picked, as the map has it.
type candidate struct {
	osd    int
	weight int
	host   uint8
}

// drawing is how a candidate draws its straw for a group, at a try.
type drawing func(c candidate, group uint8, try int) int64

func (c candidate) draw(group uint8, try int) int64 {
	return straw.Draw(group, c.osd, try, c.weight)
}

// fits tells whether c may stand beside these. Whoever is one of them shares its own host, so that hosts alone tell both.
func (c candidate) fits(others []candidate) bool {
	for _, o := range others {
		if o.host == c.host {
			return false
		}
	}
	return true
}

// candidates are rising by their numbers: the first of several that draw alike is the one of the least number.
func candidates(m api.Map) []candidate {
	var l []candidate
	for _, osd := range maps.In(m) {
		l = append(l, candidate{osd: osd, weight: m.Osds[osd].Weight, host: m.Osds[osd].Host})
	}
	return l
}

// picked are those that a group gets, in its order.
func picked(in []candidate, draw drawing, group uint8) []candidate {
	var l []candidate
	for r := range api.Size {
		if c, found := next(in, l, draw, group, r); found {
			l = append(l, c)
		}
	}
	return l
}

// next is who draws best at the first try of r at which that one fits; no other r has a try of the same number.
func next(in, others []candidate, draw drawing, group uint8, r int) (candidate, bool) {
	for t := range api.Tries {
		best := straw.Best(straws(in, draw, group, r+t*api.Size))
		if best >= 0 && in[best].fits(others) {
			return in[best], true
		}
	}
	return candidate{}, false
}

// straws are what the candidates draw, in their order.
func straws(in []candidate, draw drawing, group uint8, try int) []int64 {
	l := make([]int64, len(in))
	for i, c := range in {
		l[i] = draw(c, group, try)
	}
	return l
}
