package state

import "pith/api"

// firstCopy: the least number behind a symbol that is no literal.
const firstCopy = 7

// moves: the number behind a symbol, by the symbol's kind (a row each, in the order of the kinds' numbers) and the number before.
var moves = [4][api.NumStates]int{
	{0, 0, 0, 0, 1, 2, 3, 4, 5, 6, 4, 5},
	{7, 7, 7, 7, 7, 7, 7, 10, 10, 10, 10, 10},
	{8, 8, 8, 8, 8, 8, 8, 11, 11, 11, 11, 11},
	{9, 9, 9, 9, 9, 9, 9, 11, 11, 11, 11, 11},
}

// right: has it a number of the moves, and four distances?
func (s State) right() bool {
	for _, dist := range s.Reps {
		if !isDistance(dist) {
			return false
		}
	}
	return s.Num >= 0 && s.Num < api.NumStates
}

// known: is the kind one of the four?
func known(kind int) bool { return kind >= api.SymLit && kind <= api.SymShort }

// formed: are the length and the distance such as a symbol of its kind, a known one, may have? What the kind does not use is not looked at.
func formed(y api.Symbol) bool {
	switch y.Kind {
	case api.SymMatch:
		return isLength(y.Len) && isDistance(y.Dist)
	case api.SymRep:
		return isLength(y.Len) && y.Dist >= 0 && y.Dist <= 3
	}
	return true
}

func isLength(n int) bool { return n >= api.MinLen && n <= api.MaxLen }

func isDistance(dist int) bool { return dist >= 1 && dist <= api.MaxTold }

// behind: the last four distances behind a symbol that is formed. A match drops the last one, a rep takes out the one that it names.
func behind(reps [4]int, y api.Symbol) [4]int {
	switch y.Kind {
	case api.SymMatch:
		return inFront(reps, 3, y.Dist)
	case api.SymRep:
		return inFront(reps, y.Dist, reps[y.Dist])
	}
	return reps
}

// inFront: dist comes to the front, and those ahead of the place gone move back by one, over it.
func inFront(reps [4]int, gone, dist int) [4]int {
	copy(reps[1:gone+1], reps[:gone])
	reps[0] = dist
	return reps
}
