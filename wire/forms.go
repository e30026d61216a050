package wire

import (
	"paddock/api"
	"paddock/objects"
	"paddock/pglog"
)

// Kinds of differences.
const (
	nothing = iota
	entries
	all
)

func isBallot(b api.Ballot) bool {
	return b.N > 0 && b.Who < api.Mons
}

func isEntry(e api.Entry) bool {
	return objects.Writes(e.Op) && e.N > 0 && e.Since >= firstEpoch && e.Since <= api.MaxEpoch
}

func isDiff(d api.Diff) bool {
	switch d.Kind {
	case nothing:
		return !bears(d) && isEnds(d.Whole)
	case entries:
		return isLog(d.Log) && isEnds(d.Whole)
	case all:
		return !bears(d) && pglog.Is(d.Whole)
	}
	return false
}

// bears tells whether there is anything that entries alone come with.
func bears(d api.Diff) bool {
	return d.From != 0 || len(d.Log) > 0
}

// isLog tells whether l may be the log of a state: of one whose tail is just ahead of it. Whether it fits behind a number is for whoever has the state.
func isLog(l []api.Entry) bool {
	if len(l) == 0 {
		return true
	}
	return pglog.Is(api.State{Tail: api.Entry{N: l[0].N - 1}, Log: l})
}

// isEnds tells whether s is a state with Started and Tail alone.
func isEnds(s api.State) bool {
	return pglog.Is(s) && pglog.Same(s, api.State{Started: s.Started, Tail: s.Tail})
}
