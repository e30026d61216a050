package synod_test

import (
	"math/rand/v2"
	"slices"
	"testing"

	"paddock/api"
	"paddock/ballot"
	"paddock/synod"
)

// ask has acceptor j prepare a proposer's ballot, and tells the proposer of it.
func ask(p *synod.Proposer, a *ballot.Acceptor, j uint8) bool {
	acc, x, has, e := a.Prepare(p.Ballot())
	return e == api.OK && p.Promise(j, p.Ballot(), acc, x, has)
}

// offer has acceptor j accept a proposer's value, and tells the proposer of it.
func offer(p *synod.Proposer, a *ballot.Acceptor, j uint8) bool {
	x, has := p.Value()
	return has && a.Accept(p.Ballot(), x) == api.OK && p.Accepted(j, p.Ballot())
}

func acceptors() [api.Mons]*ballot.Acceptor {
	return [api.Mons]*ballot.Acceptor{ballot.New(), ballot.New(), ballot.New()}
}

// twos: all pairs of monitors, in both orders.
func twos() [][2]uint8 {
	return [][2]uint8{{0, 1}, {1, 0}, {0, 2}, {2, 0}, {1, 2}, {2, 1}}
}

// TestTheSecondDecidesTheSame: whichever two decided the first one's, and whichever two the second one hears and is accepted by.
func TestTheSecondDecidesTheSame(t *testing.T) {
	for _, heard := range twos() {
		for _, by := range twos() {
			for _, later := range twos() {
				for _, laterBy := range twos() {
					a := acceptors()
					one, other := synod.New(1, down(1)), synod.New(0, down(2))
					one.Start(api.Ballot{})
					ok := !ask(one, a[heard[0]], heard[0]) && ask(one, a[heard[1]], heard[1]) && !offer(one, a[by[0]], by[0]) && offer(one, a[by[1]], by[1])
					other.Start(one.Ballot())
					ok = ok && !ask(other, a[later[0]], later[0]) && ask(other, a[later[1]], later[1]) && !offer(other, a[laterBy[0]], laterBy[0]) && offer(other, a[laterBy[1]], laterBy[1])
					if !ok {
						t.Fatalf("P11.3: %v, %v, %v, %v: not decided twice", heard, by, later, laterBy)
					}
					if x, _ := one.Decided(); x != down(1) {
						t.Errorf("P11.3: the first one: %v", x)
					}
					if x, _ := other.Decided(); x != down(1) {
						t.Errorf("P11.3: %v, %v, %v, %v: the second one: %v", heard, by, later, laterBy, x)
					}
				}
			}
		}
	}
}

// TestALostRoundBindsWhoHearsOfIt: what one alone accepted isn't decided; the next one may go by it or by its own, and all later ones by that.
func TestALostRoundBindsWhoHearsOfIt(t *testing.T) {
	for _, c := range []struct {
		heard [2]uint8
		want  api.Inc
	}{{[2]uint8{0, 1}, down(1)}, {[2]uint8{1, 2}, down(2)}} {
		a := acceptors()
		one, other, third := synod.New(0, down(1)), synod.New(1, down(2)), synod.New(2, down(3))
		one.Start(api.Ballot{})
		ask(one, a[0], 0)
		ask(one, a[1], 1)
		offer(one, a[0], 0)
		other.Start(one.Ballot())
		ask(other, a[c.heard[0]], c.heard[0])
		ask(other, a[c.heard[1]], c.heard[1])
		if offer(one, a[1], 1) {
			t.Error("P11.3: decided by a ballot below what was promised")
		}
		offer(other, a[1], 1)
		offer(other, a[2], 2)
		third.Start(other.Ballot())
		ask(third, a[0], 0)
		ask(third, a[2], 2)
		offer(third, a[0], 0)
		offer(third, a[2], 2)
		for i, p := range []*synod.Proposer{other, third} {
			if x, is := p.Decided(); !is || x != c.want {
				t.Errorf("P11.3: heard %v: proposer %d: %v, %v, not %v", c.heard, i+1, x, is, c.want)
			}
		}
	}
}

// scene: two proposers and the acceptors, all as values: what they hold tells one scene from another.
type scene struct {
	p [2]synod.Proposer
	a [api.Mons]ballot.Acceptor
}

// nexts are all scenes that one turn makes of one: a start, a word to an acceptor, answered or with the answer lost.
func (s scene) nexts(most uint32) []scene {
	var l []scene
	for k := range s.p {
		for _, over := range []api.Ballot{{}, s.p[1-k].Ballot()} {
			n := s
			if n.p[k].Start(over).N <= most {
				l = append(l, n)
			}
		}
		for j := range s.a {
			asked, lost, offered, unheard := s, s, s, s
			ask(&asked.p[k], &asked.a[j], uint8(j))
			lost.a[j].Prepare(lost.p[k].Ballot())
			offer(&offered.p[k], &offered.a[j], uint8(j))
			if x, has := unheard.p[k].Value(); has {
				unheard.a[j].Accept(unheard.p[k].Ballot(), x)
			}
			l = append(l, asked, lost, offered, unheard)
		}
	}
	return l
}

// TestAllTurnsOfTwo: all scenes that two proposers with ballots of low numbers can come to.
func TestAllTurnsOfTwo(t *testing.T) {
	first := scene{p: [2]synod.Proposer{*synod.New(0, down(1)), *synod.New(1, down(2))}, a: [api.Mons]ballot.Acceptor{*ballot.New(), *ballot.New(), *ballot.New()}}
	seen := map[scene]int{first: 1}
	both := map[api.Inc]int{}
	for l := []scene{first}; len(l) > 0; {
		s := l[len(l)-1]
		l = l[:len(l)-1]
		x, is := s.p[0].Decided()
		y, too := s.p[1].Decided()
		if is && too {
			both[x]++
			if x != y {
				t.Fatalf("P11.3: decided %v and %v: %+v", x, y, s)
			}
		}
		for _, n := range s.nexts(2) {
			if seen[n] == 0 {
				seen[n] = 1
				l = append(l, n)
			}
		}
	}
	if both[down(1)] < 100 || both[down(2)] < 100 {
		t.Errorf("too little came to pass: of %d scenes both decided in %v", len(seen), both)
	}
}

// letter between a proposer and an acceptor.
type letter struct {
	kind int // api.MPrepare, api.MPromise, api.MAccept, api.MAccepted
	k, j int
	b    api.Ballot
	acc  api.Ballot
	x    api.Inc
	has  bool
}

// play: proposers, acceptors, and letters that come late, in any order, twice or never.
type play struct {
	r        *rand.Rand
	p        [api.Mons]*synod.Proposer
	a        [api.Mons]*ballot.Acceptor
	bag      []letter
	decided  []api.Inc // each time that it was
	deciders map[int]int
	took     map[letter]int // what which acceptor accepted, by which ballot
}

func newPlay(seed uint64) *play {
	w := &play{r: rand.New(rand.NewPCG(seed, 113)), a: acceptors(), deciders: map[int]int{}, took: map[letter]int{}}
	for k := range w.p {
		w.p[k] = synod.New(uint8(k), down(uint8(k)))
	}
	return w
}

// send lays a letter into the bag for each acceptor; some are lost.
func (w *play) send(x letter) {
	for j := range w.a {
		x.j = j
		w.lay(x)
	}
}

func (w *play) lay(x letter) {
	if w.r.IntN(6) > 0 {
		w.bag = append(w.bag, x)
	}
}

func (w *play) start(k int) {
	over := api.Ballot{}
	if w.r.IntN(3) > 0 {
		over = w.a[w.r.IntN(len(w.a))].Promised()
	}
	w.send(letter{kind: api.MPrepare, k: k, b: w.p[k].Start(over)})
}

// deliver takes a letter out of the bag; now and then it stays there too.
func (w *play) deliver(t *testing.T) {
	i := w.r.IntN(len(w.bag))
	x := w.bag[i]
	if w.r.IntN(5) > 0 {
		w.bag = slices.Delete(w.bag, i, i+1)
	}
	p, a := w.p[x.k], w.a[x.j]
	switch x.kind {
	case api.MPrepare:
		if acc, inc, has, e := a.Prepare(x.b); e == api.OK {
			w.lay(letter{kind: api.MPromise, k: x.k, j: x.j, b: x.b, acc: acc, x: inc, has: has})
		}
	case api.MPromise:
		if p.Promise(uint8(x.j), x.b, x.acc, x.x, x.has) {
			v, _ := p.Value()
			w.send(letter{kind: api.MAccept, k: x.k, b: p.Ballot(), x: v})
		}
	case api.MAccept:
		if a.Accept(x.b, x.x) == api.OK {
			w.took[letter{j: x.j, b: x.b, x: x.x}] = 1
			w.lay(letter{kind: api.MAccepted, k: x.k, j: x.j, b: x.b})
		}
	case api.MAccepted:
		if p.Accepted(uint8(x.j), x.b) {
			w.check(t, x.k)
		}
	}
}

// check: what is decided was accepted by enough, and is what was decided ahead of it.
func (w *play) check(t *testing.T, k int) {
	t.Helper()
	x, is := w.p[k].Decided()
	if v, has := w.p[k].Value(); !is || !has || x != v {
		t.Fatalf("P11.2: decided %v, %v, of the value %v, %v", x, is, v, has)
	}
	by := 0
	for j := range w.a {
		by += w.took[letter{j: j, b: w.p[k].Ballot(), x: x}]
	}
	if by < synod.Quorum() {
		t.Fatalf("P11.3: %v was decided by %v, and accepted by %d", x, w.p[k].Ballot(), by)
	}
	w.decided = append(w.decided, x)
	w.deciders[k]++
	if x != w.decided[0] {
		t.Fatalf("P11.3: proposer %d decided %v, ahead of it was decided %v", k, x, w.decided[0])
	}
}

// TestAllDecideTheSame: rows of turns of three proposers, each with a wish of its own.
func TestAllDecideTheSame(t *testing.T) {
	var twice, unlike int
	wishes := map[api.Inc]int{}
	for seed := range uint64(2000) {
		w := newPlay(seed)
		rare := 3 + w.r.IntN(40) // the rarer starts are, the further a ballot comes
		for range 200 {
			if len(w.bag) == 0 || w.r.IntN(rare) == 0 {
				w.start(w.r.IntN(len(w.p)))
			} else {
				w.deliver(t)
			}
		}
		if len(w.deciders) > 1 {
			twice++
		}
		for k := range w.deciders {
			if w.decided[0] != down(uint8(k)) {
				unlike++
			}
		}
		for _, x := range w.decided {
			wishes[x]++
		}
		for k, p := range w.p {
			if x, is := p.Decided(); is != (w.deciders[k] > 0) || is && x != w.decided[0] {
				t.Fatalf("P11.3: seed %d: proposer %d at the end: %v, %v, of %v", seed, k, x, is, w.decided)
			}
		}
	}
	if twice < 300 || unlike < 300 || len(wishes) != api.Mons {
		t.Errorf("too little came to pass: several decided in %d rows, %d decided another one's wish, %v", twice, unlike, wishes)
	}
}
