package place

import (
	"slices"
	"testing"

	"paddock/api"
	"paddock/maps"
)

// The tests of this file draw straws of their own: no two that a group's daemons draw are as great, whatever they weigh.

// spread: all daemons, each on its own host.
func spread() []candidate {
	var l []candidate
	for osd := range api.Osds {
		l = append(l, candidate{osd: osd, weight: 1, host: uint8(osd)})
	}
	return l
}

// best: at each try these draw a straw as long as each other's, all others a shorter one.
func best(at func(try int) []int) drawing {
	return func(c candidate, group uint8, try int) int64 {
		if slices.Contains(at(try), c.osd) {
			return -5
		}
		return -6
	}
}

func osds(l []candidate) []int {
	out := make([]int, len(l))
	for i, c := range l {
		out[i] = c.osd
	}
	return out
}

func TestOfSeveralAsGreatTheLeastNumberIsPicked(t *testing.T) {
	for _, c := range []struct {
		name string
		at   func(try int) []int
		want []int
	}{
		{"all alike at each try", func(int) []int { return nil }, []int{0}},
		{"the last two alike at each try", func(int) []int { return []int{4, 3} }, []int{3}},
		{"some alike, others at each r", func(try int) []int { return [][]int{{2, 4}, {3, 1}, {4, 3, 0}}[try%3] }, []int{2, 1, 0}},
		{"the least one is picked already", func(try int) []int { return [][]int{{2, 4}, {2, 3}, {4, 3}}[try%3] }, []int{2, 3}},
		{"at a later try alike", func(try int) []int { return [][]int{{1}, {1, 2}, {1, 2}, {1}, {3, 4}, {4}}[try%6] }, []int{1, 3, 4}},
	} {
		if got := osds(picked(spread(), best(c.at), 0)); !slices.Equal(got, c.want) {
			t.Errorf("P4.1: picked, %s: %v, not %v", c.name, got, c.want)
		}
	}
}

func TestCandidatesAreThoseThatAreInRising(t *testing.T) {
	m := maps.First()
	m.Osds[1].Weight, m.Osds[2].Weight, m.Osds[3].Up = 0, api.MaxWeight, false
	want := []candidate{{0, 8, 0}, {2, api.MaxWeight, 2}, {3, 8, 3}, {4, 8, 0}}
	if got := candidates(m); !slices.Equal(got, want) {
		t.Errorf("P4.1: candidates: %v, not %v", got, want)
	}
}

func TestEachTryHasANumberOfItsOwn(t *testing.T) {
	const group = 3
	var asked []int
	note := func(c candidate, g uint8, try int) int64 {
		if g != group {
			t.Errorf("P4.1: group %d draws, not %d", g, group)
		}
		if c.osd == 0 {
			asked = append(asked, try)
		}
		return 0
	}
	picked(spread(), note, group)
	want := []int{0}
	for r := 1; r < api.Size; r++ {
		for try := range api.Tries {
			want = append(want, r+try*api.Size)
		}
	}
	if !slices.Equal(asked, want) {
		t.Errorf("P4.1: tries %v, not %v", asked, want)
	}
}
