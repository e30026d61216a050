package sector_test

import (
	"fmt"
	"math/rand/v2"
	"testing"

	"paddock/api"
	"paddock/sector"
)

// Kinds of turns.
const (
	toWrite = iota
	toFlush
	toPower
	toCrash
)

// turn: a call that changes something; n is a sector, or a step.
type turn struct {
	kind, n int
	b       string // what is written, or the choices
}

func (c turn) on(d *sector.Disk) api.Errno {
	switch c.kind {
	case toWrite:
		return d.Write(c.n, []byte(c.b))
	case toFlush:
		return d.Flush()
	case toPower:
		d.Power(c.n)
	case toCrash:
		d.Crash([]uint8(c.b))
	}
	return api.OK
}

// paper: another reading of the chapter: nothing is held but the turns that were, and all is told from them alone.
type paper struct {
	sectors int
	done    []turn // writes and flushes that were done, and crashes
	steps   int
	goes    int // the number of the step at which the power goes; 0: none
}

func (p *paper) off() bool { return p.goes > 0 && p.steps >= p.goes }

func (p *paper) take(c turn) api.Errno {
	switch c.kind {
	case toPower:
		if !p.off() {
			p.goes = 0
			if c.n > 0 {
				p.goes = p.steps + c.n
			}
		}
		return api.OK
	case toCrash:
		p.goes = 0
		p.done = append(p.done, c)
		return api.OK
	}
	p.steps++
	if p.off() {
		return api.ErrPower
	}
	if c.kind == toWrite && (c.n < 0 || c.n >= p.sectors || len(c.b) > size) {
		return api.ErrDisk
	}
	p.done = append(p.done, c)
	return api.OK
}

// pendingAt tells whether sector i is pending behind the first so many turns.
func (p *paper) pendingAt(i, turns int) bool {
	for k := turns - 1; k >= 0; k-- {
		switch c := p.done[k]; {
		case c.kind == toWrite && c.n == i:
			return true
		case c.kind != toWrite:
			return false
		}
	}
	return false
}

// choiceOf is what the crash that is turn k chooses for sector i.
func (p *paper) choiceOf(i, k int) uint8 {
	place := 0
	for j := range i {
		if p.pendingAt(j, k) {
			place++
		}
	}
	if place < len(p.done[k].b) {
		return p.done[k].b[place]
	}
	return 0
}

// byteAt is byte k of sector i behind the first so many turns: the last turn that says something of it says which one it is.
func (p *paper) byteAt(i, k, turns int) byte {
	for j := turns - 1; j >= 0; j-- {
		c := p.done[j]
		if c.kind == toWrite && c.n == i && k < len(c.b) {
			return c.b[k]
		}
		if c.kind == toCrash && p.pendingAt(i, j) {
			if of := p.choiceOf(i, j); of != 255 && k >= int(of)%size {
				return p.byteAt(i, k, p.keptBy(j))
			}
		}
	}
	return 0
}

// keptBy is how many of the first so many turns there were when all was last kept.
func (p *paper) keptBy(turns int) int {
	for j := turns - 1; j >= 0; j-- {
		if p.done[j].kind != toWrite {
			return j + 1
		}
	}
	return 0
}

func (p *paper) sector(i int) string {
	var b [size]byte
	for k := range b {
		b[k] = p.byteAt(i, k, len(p.done))
	}
	return string(b[:])
}

// check holds all that a disk tells against the paper.
func (p *paper) check(d *sector.Disk) error {
	if d.Len() != p.sectors || d.Steps() != p.steps {
		return fmt.Errorf("Len %d, not %d; Steps %d, not %d", d.Len(), p.sectors, d.Steps(), p.steps)
	}
	for i := -1; i <= p.sectors; i++ {
		b, e := d.Read(i)
		want, wantE := "", api.ErrDisk
		if p.off() {
			wantE = api.ErrPower
		} else if i >= 0 && i < p.sectors {
			want, wantE = p.sector(i), api.OK
		}
		if string(b) != want || e != wantE {
			return fmt.Errorf("Read(%d): %q, %v, not %q, %v", i, b, e, want, wantE)
		}
	}
	return nil
}

// playRow plays a row of turns on a disk and on paper.
func playRow(sectors int, row []turn) error {
	d, p := sector.New(sectors), &paper{sectors: sectors}
	for k, c := range row {
		if e, want := c.on(d), p.take(c); e != want {
			return fmt.Errorf("turn %d: %v, not %v", k, e, want)
		}
		if err := p.check(d); err != nil {
			return fmt.Errorf("behind turn %d: %w", k, err)
		}
	}
	return nil
}

// turnsAt: all turns that come k-th in the short rows; what is written tells when.
func turnsAt(k int) []turn {
	letter := full(string(rune('a' + k)))
	return []turn{
		{toWrite, 0, letter[:3]},
		{toWrite, 0, letter},
		{toWrite, 1, letter[:40]},
		{toWrite, 1, ""},
		{toWrite, 2, letter[:1]},
		{kind: toFlush},
		{kind: toPower, n: 0},
		{kind: toPower, n: 1},
		{kind: toPower, n: 2},
		{kind: toCrash},
		{kind: toCrash, b: "\x02\xff"},
		{kind: toCrash, b: "\xff\x41\x07"},
	}
}

// TestAllShortRows: each row of five turns, and with it all shorter ones, on two sectors.
func TestAllShortRows(t *testing.T) {
	const length = 5
	row := make([]turn, 0, length)
	var grow func()
	grow = func() {
		if len(row) == length {
			if err := playRow(2, row); err != nil {
				t.Fatalf("P13: %+v: %v", row, err)
			}
			return
		}
		for _, c := range turnsAt(len(row)) {
			row = append(row, c)
			grow()
			row = row[:len(row)-1]
		}
	}
	grow()
}

// anyText: bytes thrown about.
func anyText(r *rand.Rand, most int) string {
	b := make([]byte, r.IntN(most+1))
	for i := range b {
		b[i] = byte(r.UintN(256))
	}
	return string(b)
}

func anyTurn(r *rand.Rand, sectors int) turn {
	switch n := r.IntN(20); {
	case n < 10:
		return turn{toWrite, r.IntN(sectors+2) - 1, anyText(r, size+4)}
	case n < 14:
		return turn{kind: toFlush}
	case n < 17:
		return turn{kind: toPower, n: r.IntN(9) - 2}
	}
	return turn{kind: toCrash, b: anyText(r, sectors+1)}
}

// TestLongRows: of disks of some sectors, with anything written.
func TestLongRows(t *testing.T) {
	for seed := range uint64(300) {
		r := rand.New(rand.NewPCG(seed, 13))
		sectors := r.IntN(7)
		row := make([]turn, 40)
		for k := range row {
			row[k] = anyTurn(r, sectors)
		}
		if err := playRow(sectors, row); err != nil {
			t.Fatalf("P13: seed %d, %d sectors: %v", seed, sectors, err)
		}
	}
}

// TestTheSameRowComesToTheSameEnd: whichever other disk is at work.
func TestTheSameRowComesToTheSameEnd(t *testing.T) {
	for seed := range uint64(100) {
		r := rand.New(rand.NewPCG(seed, 131))
		one, other, beside := sector.New(12), sector.New(12), sector.New(12)
		for range 60 {
			c := anyTurn(r, 12)
			e := c.on(one)
			anyTurn(r, 12).on(beside)
			if f := c.on(other); e != f || one.Steps() != other.Steps() {
				t.Fatalf("rule 6: seed %d: %+v: %v, then %v", seed, c, e, f)
			}
			for i := range 12 {
				b, e := one.Read(i)
				if d, f := other.Read(i); string(b) != string(d) || e != f {
					t.Fatalf("rule 6: seed %d: sector %d: %q, %v, then %q, %v", seed, i, b, e, d, f)
				}
			}
		}
	}
}
