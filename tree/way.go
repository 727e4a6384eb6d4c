package tree

import (
	"math/bits"

	"pith/api"
	"pith/prob"
)

// mostBits: as many as a number along a tree has.
const mostBits = 16

// there: is the whole tree within the row? The row's length is made less, not at more, so that no sum wraps.
func there(s *prob.Set, at, n int) bool {
	return n >= 0 && n <= mostBits && at >= 0 && at <= s.Len()-1<<n
}

// fits: is the tree there, and has it a way for v?
func fits(s *prob.Set, at, n, v int) bool {
	return there(s, at, n) && v >= 0 && v < 1<<n
}

// down: goes n bits down the tree at at. do does a bit, by the probability at place and with left more bits behind it, and answers it: on that hangs where the next one is.
// What is answered are the bits that were done, the first one as the highest.
func down(at, n int, do func(place, left int) (int, api.Errno)) (int, api.Errno) {
	node := 1
	for left := n - 1; left >= 0; left-- {
		bit, errno := do(at+node, left)
		if errno != api.OK {
			return 0, errno
		}
		node = 2*node + bit
	}
	return node - 1<<n, api.OK
}

// turned: the number that has v's n bits the other way round: the way of the one, the lowest bit first, is that of the other, the highest first.
func turned(n, v int) int {
	return int(bits.Reverse16(uint16(v)) >> (mostBits - n))
}
