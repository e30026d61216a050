package ballot_test

import (
	"math"
	"testing"

	"paddock/api"
	"paddock/ballot"
)

// rising: ballots, and such as are none (Less takes all of them), each above the one ahead of it.
func rising() []api.Ballot {
	return []api.Ballot{
		{N: 0, Who: 0}, {N: 0, Who: 1}, {N: 0, Who: 2}, {N: 0, Who: 3}, {N: 0, Who: 255},
		{N: 1, Who: 0}, {N: 1, Who: 1}, {N: 1, Who: 2}, {N: 1, Who: 3}, {N: 1, Who: 127}, {N: 1, Who: 128}, {N: 1, Who: 255},
		{N: 2, Who: 0}, {N: 2, Who: 1}, {N: 2, Who: 2}, {N: 2, Who: 255},
		{N: 3, Who: 0}, {N: 3, Who: 2},
		{N: 255, Who: 2}, {N: 256, Who: 0}, {N: 257, Who: 1},
		{N: 1<<16 - 1, Who: 2}, {N: 1 << 16, Who: 0},
		{N: 1<<31 - 1, Who: 2}, {N: 1 << 31, Who: 0}, {N: 1<<31 + 1, Who: 0},
		{N: math.MaxUint32 - 1, Who: 255},
		{N: math.MaxUint32, Who: 0}, {N: math.MaxUint32, Who: 1}, {N: math.MaxUint32, Who: 2}, {N: math.MaxUint32, Who: 255},
	}
}

func TestLess(t *testing.T) {
	for _, c := range []struct {
		name string
		a, b api.Ballot
		want bool
	}{
		{"unlike N", api.Ballot{N: 1, Who: 1}, api.Ballot{N: 2, Who: 1}, true},
		{"unlike N, back", api.Ballot{N: 2, Who: 1}, api.Ballot{N: 1, Who: 1}, false},
		{"a lesser N with a greater Who", api.Ballot{N: 1, Who: 2}, api.Ballot{N: 2, Who: 0}, true},
		{"a greater N with a lesser Who", api.Ballot{N: 2, Who: 0}, api.Ballot{N: 1, Who: 2}, false},
		{"the same N, unlike Who", api.Ballot{N: 7, Who: 0}, api.Ballot{N: 7, Who: 1}, true},
		{"the same N, unlike Who, back", api.Ballot{N: 7, Who: 1}, api.Ballot{N: 7, Who: 0}, false},
		{"the same ballot", api.Ballot{N: 7, Who: 1}, api.Ballot{N: 7, Who: 1}, false},
		{"zero ones", api.Ballot{}, api.Ballot{}, false},
		{"a zero one and the least ballot", api.Ballot{}, api.Ballot{N: 1}, true},
		{"the least ballot and a zero one", api.Ballot{N: 1}, api.Ballot{}, false},
	} {
		if got := ballot.Less(c.a, c.b); got != c.want {
			t.Errorf("P10.1: Less, %s: %v, %v: %v", c.name, c.a, c.b, got)
		}
	}
}

// TestLessIsTheOrderOfARisingRow: each pair of it, the same one twice too.
func TestLessIsTheOrderOfARisingRow(t *testing.T) {
	l := rising()
	for i, a := range l {
		for k, b := range l {
			if got := ballot.Less(a, b); got != (i < k) {
				t.Errorf("P10.1: Less(%v, %v): %v", a, b, got)
			}
		}
	}
}

func TestLessOfEachWho(t *testing.T) {
	for _, n := range []uint32{0, 1, math.MaxUint32} {
		for a := range 256 {
			for b := range 256 {
				one, other := api.Ballot{N: n, Who: uint8(a)}, api.Ballot{N: n, Who: uint8(b)}
				if got := ballot.Less(one, other); got != (a < b) {
					t.Fatalf("P10.1: Less(%v, %v): %v", one, other, got)
				}
			}
		}
	}
}
