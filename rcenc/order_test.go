package rcenc_test

import (
	"bytes"
	"math/rand"
	"testing"

	"pith/rcenc"
)

// step: a bit's place: by a number of the set, or, below 0, without a probability.
type step struct{ number, bit int }

// coded: the bytes of a row by an encoder of its own and a set of three like all others.
func coded(t *testing.T, row []step) []byte {
	t.Helper()
	e, s := rcenc.New(), made(t, 3)
	for _, x := range row {
		if x.number < 0 {
			direct(t, e, uint32(x.bit&1), 1)
		} else {
			code(t, e, s, x.number, x.bit)
		}
	}
	return e.Bytes()
}

// chanceRow: n bits, of a hundred of which about so many are zeros.
func chanceRow(r *rand.Rand, n, zeros int) []step {
	row := make([]step, n)
	for k := range row {
		row[k].number = r.Intn(4) - 1
		if r.Intn(100) >= zeros {
			row[k].bit = 1
		}
	}
	return row
}

// turned: the row up to the place with another bit there, and other bits behind, by the same numbers; as long as is told.
func turned(r *rand.Rand, row []step, at, n, zeros int) []step {
	next := append([]step{}, row[:min(n, len(row))]...)
	next = append(next, chanceRow(r, n-len(next), zeros)...)
	for k := at; k < n; k++ {
		next[k].bit = 0
		if r.Intn(100) >= zeros {
			next[k].bit = 1
		}
	}
	next[at].bit = 1 - row[at].bit
	return next
}

// wantBelow: the row with the 0 is below the one with the 1.
func wantBelow(t *testing.T, a, b []step, at int) {
	t.Helper()
	if a[at].bit != 0 {
		a, b = b, a
	}
	if x, y := coded(t, a), coded(t, b); bytes.Compare(x, y) >= 0 {
		t.Errorf("rows of %d and %d bits that differ at %d: % X is not below % X", len(a), len(b), at, x, y)
	}
}

// P7.5: all rows of ten bits are in the order of their bytes, by one number, by three, and without a probability.
func TestOrderOfShortRows(t *testing.T) {
	for _, number := range []func(k int) int{
		func(k int) int { return 0 },
		func(k int) int { return k % 3 },
		func(k int) int { return -1 },
		func(k int) int { return k%4 - 1 },
	} {
		var last []byte
		for v := range 1 << 10 {
			row := make([]step, 10)
			for k := range row {
				row[k] = step{number(k), v >> (9 - k) & 1}
			}
			b := coded(t, row)
			if v > 0 && bytes.Compare(last, b) >= 0 {
				t.Fatalf("row %d: % X is not above % X", v, b, last)
			}
			last = b
		}
	}
}

// P7.5: rows that are the same up to some place, whatever follows there, and however long they are.
func TestOrderOfRows(t *testing.T) {
	r := rand.New(rand.NewSource(751))
	for range 3000 {
		n := 1 + r.Intn(200)
		a := chanceRow(r, n, r.Intn(101))
		at := r.Intn(n)
		b := turned(r, a, at, at+1+r.Intn(200), r.Intn(101))
		wantBelow(t, a, b, at)
	}
}

// P7.5: the nearest rows: a 0 and then ones alone, a 1 and then zeros alone, of lengths that differ.
func TestOrderOfTheNearestRows(t *testing.T) {
	r := rand.New(rand.NewSource(752))
	for range 300 {
		at := r.Intn(60)
		a := append(chanceRow(r, at, r.Intn(101)), step{r.Intn(4) - 1, 0})
		b := append([]step{}, a...)
		b[at].bit = 1
		for range 250 {
			number := r.Intn(4) - 1
			a, b = append(a, step{number, 1}), append(b, step{number, 0})
		}
		wantBelow(t, a, b, at)
		wantBelow(t, a, b[:at+1], at)
		wantBelow(t, a[:at+1], b, at)
		wantBelow(t, a[:at+1+r.Intn(250)], b[:at+1+r.Intn(250)], at)
	}
}

// P7.5: a row that is another's beginning has bytes that are not above it.
func TestOrderOfBeginnings(t *testing.T) {
	r := rand.New(rand.NewSource(753))
	for _, zeros := range []int{0, 10, 50, 90, 100} {
		for range 20 {
			row := chanceRow(r, 120, zeros)
			all := coded(t, row)
			for n := range len(row) + 1 {
				if b := coded(t, row[:n]); bytes.Compare(b, all) > 0 {
					t.Errorf("the first %d bits: % X is above % X", n, b, all)
				}
			}
		}
	}
}
