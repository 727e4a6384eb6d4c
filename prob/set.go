package prob

import (
	"slices"

	"pith/api"
)

// mostInSet: as long as a row may be.
const mostInSet = 1 << 20

// Set: a row of probabilities.
type Set struct {
	row []uint16
}

// New: n of them, each Half.
func New(n int) (*Set, api.Errno) {
	if n < 0 || n > mostInSet {
		return nil, api.ErrRange
	}
	s := &Set{row: make([]uint16, n)}
	s.Reset()
	return s, api.OK
}

// Len: how many there are.
func (s *Set) Len() int { return len(s.row) }

func (s *Set) has(i int) bool {
	return i >= 0 && i < len(s.row)
}

// At: the one at i.
func (s *Set) At(i int) (int, api.Errno) {
	if !s.has(i) {
		return 0, api.ErrRange
	}
	return int(s.row[i]), api.OK
}

// Turn: the one at i moves behind a bit.
func (s *Set) Turn(i int, bit int) api.Errno {
	if !s.has(i) {
		return api.ErrRange
	}
	s.row[i] = uint16(Next(int(s.row[i]), bit))
	return api.OK
}

// Reset: all are Half.
func (s *Set) Reset() {
	for i := range s.row {
		s.row[i] = Half
	}
}

// Fork: another row with the same ones.
func (s *Set) Fork() *Set {
	return &Set{row: slices.Clone(s.row)}
}
