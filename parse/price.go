package parse

import (
	"pith/api"
	"pith/state"
)

const (
	literalPrice = 9
	shortPrice   = 4
	matchPrice   = 8
	nearRepPrice = 4 // the numbers 0 and 1
	farRepPrice  = 5 // the numbers 2 and 3
)

// priceOf: of a formed symbol.
func priceOf(y api.Symbol) int {
	switch y.Kind {
	case api.SymMatch:
		return distancePrice(y.Dist) + lengthPrice(y.Len)
	case api.SymRep:
		return repPrice(y.Dist) + lengthPrice(y.Len)
	case api.SymShort:
		return shortPrice
	}
	return literalPrice
}

// distancePrice: of a match from that distance all but its length.
func distancePrice(dist int) int {
	slot, _ := state.Slot(dist)
	_, bits, _ := state.Range(slot)
	return matchPrice + bits
}

// repPrice: of a rep with that number all but its length.
func repPrice(number int) int {
	if number < 2 {
		return nearRepPrice
	}
	return farRepPrice
}

func lengthPrice(n int) int {
	switch {
	case n <= 9:
		return 4
	case n <= 17:
		return 5
	}
	return 10
}
