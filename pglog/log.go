package pglog

import (
	"paddock/api"
	"paddock/objects"
)

// position is what stays of an entry when it is folded: where it was in the list.
func position(e api.Entry) api.Entry {
	return api.Entry{Since: e.Since, N: e.N}
}

// last is the position of the last one of log, or tail, which is the position ahead of log.
func last(tail api.Entry, log []api.Entry) api.Entry {
	if len(log) == 0 {
		return tail
	}
	return position(log[len(log)-1])
}

// joined is a list of its own, as long as it has room, so that no state shares its log with another one.
func joined(log []api.Entry, more ...api.Entry) []api.Entry {
	l := make([]api.Entry, len(log)+len(more))
	n := copy(l, log)
	copy(l[n:], more)
	return l
}

func done(b api.Base, log []api.Entry) api.Base {
	for _, e := range log {
		b, _ = objects.Do(b, e.Op)
	}
	return b
}

// folded is s with the first k entries in its base.
func folded(s api.State, k int) api.State {
	first, rest := s.Log[:k], s.Log[k:]
	s.Base = done(s.Base, first)
	s.Tail = last(s.Tail, first)
	s.Log = joined(rest)
	return s
}

// reach is how many entries of the log are up to number n: ErrForm, if s is no state; ErrDiff, if n is below the log; ErrNone, if it is above.
func reach(s api.State, n uint32) (int, api.Errno) {
	switch {
	case !Is(s):
		return 0, api.ErrForm
	case n < s.Tail.N:
		return 0, api.ErrDiff
	case n > last(s.Tail, s.Log).N:
		return 0, api.ErrNone
	}
	return int(n - s.Tail.N), api.OK
}
