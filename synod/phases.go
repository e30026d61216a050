package synod

import (
	"paddock/api"
	"paddock/ballot"
)

// phase: what a proposer waits for.
type phase uint8

const (
	idle     phase = iota // a start: there is no ballot yet
	asking                // promises
	offering              // those that accept: there is a value
	done                  // nothing: it is decided
)

// round: what came of a ballot so far.
type round struct {
	phase phase
	heard [api.Mons]bool // in this phase
	acc   api.Ballot     // the greatest one by which one that was heard had accepted something
	bound choice         // what that one had accepted
	value choice
}

// choice: an increment, or none yet.
type choice struct {
	inc  api.Inc
	made bool
}

func chosen(x api.Inc) choice { return choice{inc: x, made: true} }

func (c choice) told() (api.Inc, bool) { return c.inc, c.made }

// hears notes that from spoke, if it is from's word for this ballot and phase, and its first one.
func (p *Proposer) hears(in phase, from uint8, b api.Ballot) bool {
	if p.now.phase != in || p.ballot != b || from >= api.Mons || p.now.heard[from] {
		return false
	}
	p.now.heard[from] = true
	return true
}

// weigh keeps x, if it was accepted by a greater ballot than all that were heard of ahead of it: what may have been decided is the greatest one's.
func (r *round) weigh(acc api.Ballot, x api.Inc) {
	if !r.bound.made || ballot.Less(r.acc, acc) {
		r.acc, r.bound = acc, chosen(x)
	}
}

// ends takes the phase's step, when enough were heard in it.
func (r *round) ends(step func()) bool {
	if r.count() < quorum {
		return false
	}
	step()
	return true
}

func (r *round) count() int {
	n := 0
	for _, heard := range r.heard {
		if heard {
			n++
		}
	}
	return n
}

// enter goes over to a phase in which nobody was heard yet.
func (r *round) enter(next phase) {
	r.phase, r.heard = next, [api.Mons]bool{}
}

// settle is the step behind the promises: where something may be decided already that is the value; else it is free to take what it wants.
func (p *Proposer) settle() {
	p.now.value = chosen(p.wants)
	if p.now.bound.made {
		p.now.value = p.now.bound
	}
	p.now.enter(offering)
}

// decide is the step behind those that accepted.
func (p *Proposer) decide() {
	p.decided = p.now.value
	p.now.enter(done)
}
