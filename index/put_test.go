package index_test

import (
	"math/rand"
	"slices"
	"testing"

	"pith/api"
)

// P23.1: the chapter's examples.
func TestPutOfExamples(t *testing.T) {
	wantPut(t, nil, 0x00, 0x00, 0x00, 0x00, 0x1C, 0xDF, 0x44, 0x21)
	wantPut(t, list(19, 3), sealed(0x00, 0x01, 0x13, 0x03)...)
	wantPut(t, list(130, 300), sealed(0x00, 0x01, 0x82, 0x01, 0xAC, 0x02, 0x00, 0x00)...)
	wantNoPut(t, list(4, 1))
	wantNoPut(t, list(5, -1))
	wantNoPut(t, list(greatest-2, 0))
	wantNoPut(t, list(greatest-3, 0, 5, 0))
	wantPut(t, list(greatest-3, greatest), sealed(0x00, 0x01, 0xFC, 0xFF, 0xFF, 0xFF, 0xFF, 0xFF, 0xFF, 0xFF, 0x7F, 0xFF, 0xFF, 0xFF, 0xFF, 0xFF, 0xFF, 0xFF, 0xFF, 0x7F)...)
}

// P23.1: a number of records of one byte, two and three.
func TestPutOfCounts(t *testing.T) {
	for _, n := range []int{0, 1, 2, 3, 4, 5, 126, 127, 128, 129, 130, 255, 256, 16383, 16384, 16385} {
		l := slices.Repeat(list(8, 1), n)
		b := row(uint64(n))
		for range n {
			b = append(b, 8, 1)
		}
		wantPut(t, l, filled(b...)...)
	}
}

// P23.1: the edges of each size.
func TestPutOfSizes(t *testing.T) {
	for u := 5; u < 300; u++ {
		wantPut(t, list(u, 0), filled(row(1, uint64(u), 0)...)...)
		wantPut(t, list(5, u), filled(row(1, 5, uint64(u))...)...)
	}
	for _, l := range rightLists() {
		wantPut(t, l, filled(rowOf(l)...)...)
	}
}

// P23.1: as few zeros as make all a multiple of four: none, one, two and three.
func TestPutOfZeros(t *testing.T) {
	wantPut(t, list(8, 1), sealed(0, 1, 8, 1)...)
	wantPut(t, list(128, 128, 8, 1), sealed(0, 2, 0x80, 1, 0x80, 1, 8, 1)...)
	wantPut(t, list(128, 1, 8, 1), sealed(0, 2, 0x80, 1, 1, 8, 1, 0)...)
	wantPut(t, list(128, 128), sealed(0, 1, 0x80, 1, 0x80, 1, 0, 0)...)
	wantPut(t, nil, sealed(0, 0, 0, 0)...)
	wantPut(t, list(128, 1), sealed(0, 1, 0x80, 1, 1, 0, 0, 0)...)
}

// P23.1: sums just at what may be, and one step above it.
func TestPutOfSums(t *testing.T) {
	// The greatest multiple of four that is a number is MaxNumber - 3.
	for u := 5; u <= 8; u++ {
		wantPutByWords(t, list(greatest-11, 0, u, 0))
		wantPutByWords(t, list(u, 0, greatest-11, 0))
		wantNoPut(t, list(greatest-10, 0, u, 0))
		wantNoPut(t, list(u, 0, greatest-10, 0))
		wantNoPut(t, list(greatest-11, 0, u+4, 0))
	}
	for _, n := range []int{0, 1, 2, 127, 128, 1 << 40, greatest - 1, greatest} {
		wantPut(t, list(5, n, 5, greatest-n), filled(row(2, 5, uint64(n), 5, uint64(greatest-n))...)...)
		wantNoPut(t, list(5, n, 5, greatest-n, 5, 1))
		wantNoPut(t, list(5, 1, 5, n, 5, greatest-n))
	}
}

// P23.1: lists that are not right, whatever is wrong with them, and where.
func TestPutOfWrongLists(t *testing.T) {
	for _, l := range wrongLists() {
		wantNoPut(t, l)
	}
}

// P23.1: by chance, whatever is right or wrong.
func TestPutByTheWords(t *testing.T) {
	r := rand.New(rand.NewSource(231))
	unpadded := []int{-1, 4, 5, 5, 6, 7, 8, 9, 127, 128, 300, 1 << 40, 1 << 61, 1<<62 - 4, 1 << 62, greatest - 11, greatest - 7, greatest - 4, greatest - 3, greatest - 2, greatest}
	size := []int{-1, 0, 0, 0, 1, 127, 128, 300, 1 << 40, 1 << 61, 1 << 62, 1<<62 - 1, greatest - 1, greatest}
	met := map[api.Errno]int{}
	for range 20000 {
		var l []api.Record
		for range r.Intn(5) {
			l = append(l, rec(unpadded[r.Intn(len(unpadded))], size[r.Intn(len(size))]))
		}
		met[wantPutByWords(t, l)]++
	}
	if len(met) != 2 || min(met[api.OK], met[api.ErrRange]) < 4000 {
		t.Errorf("what was met: %v", met)
	}
}
