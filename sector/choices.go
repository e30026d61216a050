package sector

// keepsAll is the one choice by which a sector comes through a crash as it was last written.
const keepsAll = 255

// choice is the n-th of a crash's choices; behind their end nothing survives.
func choice(l []uint8, n int) uint8 {
	if n < len(l) {
		return l[n]
	}
	return 0
}

// survives is how many of a sector's first bytes are, behind a crash, as they were last written.
func survives(c uint8) int {
	if c == keepsAll {
		return size
	}
	return int(c) % size
}
