package watch

import "paddock/api"

// Reports: of each daemon who has reported about it.
type Reports struct {
	from [api.Osds]reporters
}

// reporters: which daemons have reported about one.
type reporters [api.Osds]bool

// believed: so many unlike ones are believed.
const believed = 2

// NewReports: nobody has reported about anybody.
func NewReports() *Reports { return &Reports{} }

// Add: one daemon has reported about another one. It tells whether that one is condemned; then all about it is forgotten, so that it takes as many to condemn it again.
func (r *Reports) Add(from, about int) bool {
	if !isOsd(from) || !isOsd(about) || from == about {
		return false
	}
	r.from[about][from] = true
	if len(r.Of(about)) < believed {
		return false
	}
	r.Clear(about)
	return true
}

// Clear forgets all reports about a daemon.
func (r *Reports) Clear(about int) {
	if isOsd(about) {
		r.from[about] = reporters{}
	}
}

// Of: who has reported about a daemon, rising; nobody about what is none.
func (r *Reports) Of(about int) []int {
	if !isOsd(about) {
		return nil
	}
	var who []int
	for from, has := range r.from[about] {
		if has {
			who = append(who, from)
		}
	}
	return who
}
