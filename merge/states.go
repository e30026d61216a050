package merge

import (
	"paddock/api"
	"paddock/pglog"
)

func sameButStarted(a, b api.State) bool {
	a.Started = b.Started
	return pglog.Same(a, b)
}

// through tells whether have's list of operations goes through want's tail, with the same base there.
func through(have, want api.State) bool {
	if want.Tail != have.Tail && !hasPosition(have, want.Tail) {
		return false
	}
	base, ok := pglog.Upto(have, want.Tail.N)
	return ok && base == want.Base
}

// hasPosition tells whether an entry of the log of s is at that place. One of the same number may be of another interval.
func hasPosition(s api.State, place api.Entry) bool {
	e, ok := pglog.Find(s, place.N)
	return ok && place == api.Entry{Since: e.Since, N: e.N}
}

// shared is how many of the first entries of want's log have has too.
func shared(have, want api.State) int {
	for k, e := range want.Log {
		if own, ok := pglog.Find(have, e.N); !ok || own != e {
			return k
		}
	}
	return len(want.Log)
}

// ends is what isn't told by entries: when s was started, and where its log begins.
func ends(s api.State) api.State {
	return api.State{Started: s.Started, Tail: s.Tail}
}

// turned is what d makes of have; whether that is a state is still to be asked, and its log may be that of d.
func turned(have api.State, d api.Diff) (api.State, bool) {
	bare := len(d.Log) == 0 && d.From == 0
	switch d.Kind {
	case nothing:
		made, ok := ended(have, d.Whole)
		return made, ok && bare
	case entries:
		made, ok := rewritten(have, d.From, d.Log)
		if !ok {
			return api.State{}, false
		}
		return ended(made, d.Whole)
	case all:
		return d.Whole, bare
	}
	return api.State{}, false
}

// rewritten is s with log behind number from, instead of what it had there.
func rewritten(s api.State, from uint32, log []api.Entry) (api.State, bool) {
	s, e := pglog.Cut(s, from)
	for _, x := range log {
		if e != api.OK {
			break
		}
		s, e = pglog.Add(s, x)
	}
	return s, e == api.OK
}

// ended is s, folded up to the tail of whole, and started when whole was.
func ended(s, whole api.State) (api.State, bool) {
	s, e := pglog.Tail(s, whole.Tail.N)
	s.Started = whole.Started
	return s, e == api.OK && s.Tail.Since == whole.Tail.Since
}

// twin is s with a log of its own.
func twin(s api.State) api.State {
	s.Log = copied(s.Log)
	return s
}

// copied is a list of its own, as long as it has room.
func copied(log []api.Entry) []api.Entry {
	l := make([]api.Entry, len(log))
	copy(l, log)
	return l
}
