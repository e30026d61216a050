package choose

import (
	"cmp"

	"paddock/api"
	"paddock/pglog"
)

// rank is what a daemon's state is held against others by.
type rank struct {
	started  uint32
	since, n uint32 // of its head
	osd      int
}

func ranked(osd int, s api.State) rank {
	since, n := pglog.Head(s)
	return rank{started: s.Started, since: since, n: n, osd: osd}
}

// beats: the latest start counts ahead of the longest list: what was started then had all that was acknowledged until then, and a longer list may have entries that never were.
func (r rank) beats(other rank) bool {
	return cmp.Or(
		cmp.Compare(r.started, other.started),
		cmp.Compare(r.since, other.since),
		cmp.Compare(r.n, other.n),
		cmp.Compare(other.osd, r.osd),
	) > 0
}
