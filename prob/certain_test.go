package prob_test

import (
	"math/rand"
	"testing"

	"pith/prob"
)

// reached: all probabilities that any bits lead to from Half.
func reached() []int {
	seen := map[int]bool{prob.Half: true}
	list := []int{prob.Half}
	for k := 0; k < len(list); k++ {
		for _, bit := range []int{0, 1} {
			if q := prob.Next(list[k], bit); !seen[q] {
				seen[q] = true
				list = append(list, q)
			}
		}
	}
	return list
}

// P6.6: whatever bits came behind Half, the probability is from 31 to 2017, and either bit costs from 1 to 103.
func TestNeverCertain(t *testing.T) {
	lowest, highest := prob.Half, prob.Half
	for _, p := range reached() {
		lowest, highest = min(lowest, p), max(highest, p)
		for _, bit := range []int{0, 1} {
			if c := prob.Cost(p, bit); c < 1 || c > 103 {
				t.Errorf("Cost(%d, %d) is %d", p, bit, c)
			}
		}
	}
	if lowest != 31 || highest != 2017 {
		t.Errorf("from Half one comes to %d and to %d, want 31 and 2017", lowest, highest)
	}
}

// P6.6: no step leads out, wherever between 31 and 2017 it begins.
func TestNoStepLeadsOut(t *testing.T) {
	for p := 31; p <= 2017; p++ {
		for _, bit := range []int{0, 1} {
			if q := prob.Next(p, bit); q < 31 || q > 2017 {
				t.Errorf("Next(%d, %d) is %d", p, bit, q)
			}
		}
	}
}

// P6.6: behind enough zeros 2017, behind enough ones 31, wherever it was between; and there it stays.
func TestLongRowsOfOneBit(t *testing.T) {
	for p := 31; p <= 2017; p++ {
		zeros, ones := p, p
		for range 400 {
			zeros, ones = prob.Next(zeros, 0), prob.Next(ones, 1)
		}
		if zeros != 2017 || ones != 31 {
			t.Errorf("from %d one comes to %d and to %d, want 2017 and 31", p, zeros, ones)
		}
	}
	if prob.Next(2017, 0) != 2017 || prob.Next(31, 1) != 31 {
		t.Error("the ends do not stay")
	}
}

// P6.6: the same in a row, from Half, to the one end, to the other, and back.
func TestLongRowsOfOneBitInASet(t *testing.T) {
	s := made(t, 3)
	for _, bit := range []int{0, 1, 0, -7} {
		before := []int{}
		for i := range 3 {
			p, _ := s.At(i)
			before = append(before, p)
		}
		for range 400 {
			turn(t, s, 1, bit)
		}
		before[1] = 31
		if bit == 0 {
			before[1] = 2017
		}
		wantRow(t, s, before)
	}
}

// P6.6: any bits, in a row.
func TestAnyBitsInASet(t *testing.T) {
	r := rand.New(rand.NewSource(661))
	for _, zeros := range []int{0, 1, 10, 50, 90, 99, 100} {
		s := made(t, 4)
		for range 5000 {
			i, bit := r.Intn(4), 0
			if r.Intn(100) >= zeros {
				bit = ones[r.Intn(len(ones))]
			}
			turn(t, s, i, bit)
			if p, _ := s.At(i); p < 31 || p > 2017 {
				t.Fatalf("with %d zeros of 100 bits it is %d", zeros, p)
			}
		}
	}
}

// P6.7: in rows too: the likelier number stays the likelier one behind the same bits.
func TestRowsKeepTheOrder(t *testing.T) {
	r := rand.New(rand.NewSource(671))
	s := made(t, 2)
	turn(t, s, 1, 0)
	for range 5000 {
		bit := chanceBit(r)
		first, _ := s.At(0)
		turn(t, s, 0, bit)
		turn(t, s, 1, bit)
		less, _ := s.At(0)
		more, _ := s.At(1)
		if less > more {
			t.Fatalf("%d is above %d", less, more)
		}
		if bit == 0 && less < first || bit != 0 && less > first {
			t.Fatalf("behind %d the probability %d is %d", bit, first, less)
		}
	}
}
