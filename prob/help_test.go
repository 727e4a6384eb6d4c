package prob_test

import (
	"math/big"
	"math/rand"
	"testing"

	"pith/api"
	"pith/prob"
)

// The greatest and the least int, and the longest row.
const (
	greatest = 1<<63 - 1
	least    = -1 << 63
	longest  = 1048576
)

// below, above: numbers that stand for 0 and for 2047, also such whose lowest bits are those of another probability.
var (
	below = []int{-1, -2, -5, -9, -31, -32, -1024, -2047, -2048, -2049, -65536, -1 << 31, -1 << 32, -1<<32 + 5, -1 << 62, least, least + 1, least + 1024}
	above = []int{2048, 2049, 2079, 2080, 3072, 4095, 4096, 5000, 9999, 65535, 65536, 65536 + 1024, 1 << 31, 1 << 32, 1<<32 + 5, 1 << 62, 1<<62 + 1024, greatest - 1, greatest}
)

// ones: bits that count as a 1.
var ones = []int{1, 2, 3, 7, -1, -2, 255, 256, 65536, 1 << 31, 1 << 32, -1 << 32, 1 << 62, least, greatest}

// outside: numbers that no row has.
var outside = []int{-1, -2, -1 << 31, -1 << 32, least, least + 1, longest, longest + 1, 1 << 31, 1 << 32, 1<<32 + 1, 1 << 62, greatest - 1, greatest}

// taken: p, as a call without an error takes it.
func taken(p int) int {
	switch {
	case p < 0:
		return 0
	case p > 2047:
		return 2047
	}
	return p
}

// moved: by the words of the chapter.
func moved(p, bit int) int {
	p = taken(p)
	if bit == 0 {
		return p + (2048-p)/32
	}
	return p - p/32
}

// costOf: by the words of the chapter, in numbers of any size.
func costOf(p int) int {
	w := big.NewInt(int64(16*(p/16) + 8))
	room, two := big.NewInt(65536), big.NewInt(2)
	c := 0
	for i := 0; i < 4; i++ {
		w.Mul(w, w)
		c = 2 * c
		for w.Cmp(room) >= 0 {
			w.Div(w, two)
			c++
		}
	}
	return 161 - c
}

// made: a row of n.
func made(t *testing.T, n int) *prob.Set {
	t.Helper()
	s, e := prob.New(n)
	if s == nil || e != api.OK {
		t.Fatalf("New(%d): %v, error %d", n, s, e)
	}
	return s
}

// turn: the one at i moves, without an error.
func turn(t *testing.T, s *prob.Set, i, bit int) {
	t.Helper()
	if e := s.Turn(i, bit); e != api.OK {
		t.Fatalf("Turn(%d, %d): error %d", i, bit, e)
	}
}

// wantAt: the one at i is want.
func wantAt(t *testing.T, s *prob.Set, i, want int) {
	t.Helper()
	if p, e := s.At(i); p != want || e != api.OK {
		t.Errorf("At(%d) is %d, error %d; want %d", i, p, e, want)
	}
}

// wantRow: the whole row, and none behind it.
func wantRow(t *testing.T, s *prob.Set, want []int) {
	t.Helper()
	if n := s.Len(); n != len(want) {
		t.Fatalf("Len is %d, want %d", n, len(want))
	}
	for i, w := range want {
		wantAt(t, s, i, w)
	}
	noPlace(t, s, -1)
	noPlace(t, s, len(want))
}

// noPlace: At tells that the row has no number i, and answers 0.
func noPlace(t *testing.T, s *prob.Set, i int) {
	t.Helper()
	if p, e := s.At(i); p != 0 || e != api.ErrRange {
		t.Errorf("At(%d) of a row of %d is %d, error %d; want 0, ErrRange", i, s.Len(), p, e)
	}
}

// halves: n of them.
func halves(n int) []int {
	row := make([]int, n)
	for i := range row {
		row[i] = 1024
	}
	return row
}

// chanceBit: a 0, or one of those that count as a 1.
func chanceBit(r *rand.Rand) int {
	if r.Intn(2) == 0 {
		return 0
	}
	return ones[r.Intn(len(ones))]
}
