package state_test

import (
	"slices"
	"testing"

	"pith/api"
	"pith/state"
)

// wrong: symbols that are not formed though their kind is one of the four.
func wrong() []api.Symbol {
	all := []api.Symbol{}
	for _, n := range noLengths {
		all = append(all, match(n, 1), match(n, api.MaxTold), match(n, 0), rep(n, 0), rep(n, 3), rep(n, 4))
	}
	for _, n := range lengths {
		for _, d := range noDistances {
			all = append(all, match(n, d))
		}
		for _, i := range noReps {
			all = append(all, rep(n, i))
		}
	}
	return all
}

// badStates: those that are not right: by their number, or by one of the distances, at each place.
func badStates() []state.State {
	all := []state.State{{}}
	for _, num := range noNums {
		all = append(all, with(num))
	}
	for _, d := range noDistances {
		for place := range 4 {
			for _, num := range []int{0, 11} {
				s := with(num)
				s.Reps[place] = d
				all = append(all, s)
			}
		}
	}
	return all
}

// P12.2: a state that is not right is refused ahead of all else, whatever the symbol is.
func TestStatesThatAreNotRight(t *testing.T) {
	symbols := wrong()[:20]
	for _, kind := range slices.Concat(kinds, noKinds) {
		symbols = append(symbols, some(kind), api.Symbol{Kind: kind}, api.Symbol{Kind: kind, Len: -1, Dist: -1})
	}
	for _, s := range badStates() {
		for _, y := range symbols {
			wantNone(t, s, y, api.ErrRange)
		}
	}
}

// P12.2: the numbers 0 and 11 and the distances 1 and MaxTold are right, at each place.
func TestStatesAtTheEdge(t *testing.T) {
	for _, num := range []int{0, 11} {
		for place := range 4 {
			for _, d := range []int{1, api.MaxTold} {
				s := with(num)
				s.Reps[place] = d
				for _, kind := range kinds {
					went(t, s, some(kind))
				}
			}
		}
	}
}

// P12.2: a kind that is none of the four is ErrConfig, behind a right state, whatever else the symbol has.
func TestKindsThatAreNone(t *testing.T) {
	for _, kind := range noKinds {
		for num := range 12 {
			wantNone(t, with(num), api.Symbol{Kind: kind}, api.ErrConfig)
			wantNone(t, with(num), api.Symbol{Kind: kind, Len: 2, Dist: 1}, api.ErrConfig)
			wantNone(t, with(num), api.Symbol{Kind: kind, Len: -1, Dist: least}, api.ErrConfig)
			wantNone(t, with(num), api.Symbol{Kind: kind, Byte: 9, Len: greatest, Dist: greatest}, api.ErrConfig)
		}
	}
}

// P12.2: a symbol that is not formed is ErrRange, behind every right state.
func TestSymbolsThatAreNotFormed(t *testing.T) {
	for _, y := range wrong() {
		for num := range 12 {
			wantNone(t, with(num), y, api.ErrRange)
		}
	}
}

// P12.2: a rep's number is not looked up as a distance, nor a match's distance as a number.
func TestRepsAndMatchesDiffer(t *testing.T) {
	for _, d := range []int{4, 5, 20, 50, api.MaxTold} {
		wantNone(t, with(0), rep(2, d), api.ErrRange)
		wantNext(t, with(0), match(2, d), 7, d, 20, 30, 40)
	}
	wantNone(t, with(0), match(2, 0), api.ErrRange)
	wantNext(t, with(0), rep(2, 0), 8, 20, 30, 40, 50)
}
