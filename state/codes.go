package state

import (
	"math/bits"

	"pith/api"
)

const (
	numSlots = 64
	alone    = 4 // the slots that have one distance each
	numLC    = 9 // values that a byte of properties has room for, more than are allowed
	numLP    = 5 // likewise
)

// slotOf: of a distance less 1. Of the greater ones the slot tells how many digits there are, and the second of them (the first is a 1).
func slotOf(x int) int {
	if x < alone {
		return x
	}
	digits := bits.Len(uint(x))
	second := x >> (digits - 2) & 1
	return 2*(digits-1) + second
}

// lowOf: the least number that has the slot, and how many bits stand behind the two digits that the slot tells.
func lowOf(slot int) (low, rest int) {
	if slot < alone {
		return slot, 0
	}
	rest = slot/2 - 1
	return (2 + slot%2) << rest, rest
}

// allowed: LC and LP are not added up, for the sum of great numbers would wrap.
func allowed(p api.Props) bool {
	return p.LC >= 0 && p.LP >= 0 && p.PB >= 0 && p.LP <= api.MaxPos-p.LC && p.PB <= api.MaxPos
}
