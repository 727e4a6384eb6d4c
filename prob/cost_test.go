package prob_test

import (
	"math"
	"testing"

	"pith/prob"
)

func wantCost(t *testing.T, p, bit, want int) {
	t.Helper()
	if got := prob.Cost(p, bit); got != want {
		t.Errorf("Cost(%d, %d) is %d, want %d", p, bit, got, want)
	}
}

// P6.3: the chapter's examples.
func TestCostOfTheExamples(t *testing.T) {
	for _, c := range [][3]int{
		{1024, 0, 16}, {1024, 1, 17}, {2017, 0, 1}, {2017, 1, 103},
		{31, 0, 103}, {31, 1, 1}, {0, 0, 128}, {-9, 5, 1},
	} {
		wantCost(t, c[0], c[1], c[2])
	}
}

// P6.3: every probability, with either bit.
func TestCostOfEveryProbability(t *testing.T) {
	for p := 0; p <= 2047; p++ {
		wantCost(t, p, 0, costOf(p))
		wantCost(t, p, 1, costOf(2047-p))
	}
}

// P6.3: the costs of all steps of sixteen, written out, so that they hang on no reckoning of the tests.
func TestCostOfEveryStep(t *testing.T) {
	costs := []int{
		128, 103, 91, 84, 78, 73, 69, 66, 63, 61, 58, 56, 54, 52, 51, 49,
		48, 46, 45, 44, 43, 42, 41, 40, 39, 38, 37, 36, 35, 34, 34, 33,
		32, 31, 31, 30, 29, 29, 28, 28, 27, 26, 26, 25, 25, 24, 24, 23,
		23, 22, 22, 22, 21, 21, 20, 20, 19, 19, 19, 18, 18, 17, 17, 17,
		16, 16, 16, 15, 15, 15, 14, 14, 14, 13, 13, 13, 12, 12, 12, 11,
		11, 11, 11, 10, 10, 10, 10, 9, 9, 9, 9, 8, 8, 8, 8, 7,
		7, 7, 7, 6, 6, 6, 6, 5, 5, 5, 5, 5, 4, 4, 4, 4,
		3, 3, 3, 3, 3, 2, 2, 2, 2, 2, 2, 1, 1, 1, 1, 1,
	}
	if len(costs) != 128 {
		t.Fatalf("%d steps", len(costs))
	}
	for p := 0; p <= 2047; p++ {
		wantCost(t, p, 0, costs[p/16])
		wantCost(t, 2047-p, 1, costs[p/16])
	}
}

// P6.3: what is below 0 is taken as 0, what is above 2047 as 2047.
func TestCostBelowAndAbove(t *testing.T) {
	for _, p := range below {
		wantCost(t, p, 0, 128)
		wantCost(t, p, 1, 1)
	}
	for _, p := range above {
		wantCost(t, p, 0, 1)
		wantCost(t, p, 1, 128)
	}
}

// P6.3: a bit that is not 0 counts as 1.
func TestCostByAnyBit(t *testing.T) {
	for _, bit := range ones {
		for p := -3; p <= 2050; p++ {
			wantCost(t, p, bit, costOf(2047-taken(p)))
		}
	}
}

// P6.3, Words: a cost is about -16 log2(w / 2048), rounded up; never under it, and less than 1 above.
func TestCostIsTheLogarithm(t *testing.T) {
	for p := 0; p <= 2047; p++ {
		w := float64(16*(p/16) + 8)
		right := -16 * math.Log2(w/2048)
		if got := float64(prob.Cost(p, 0)); got < right-1e-9 || got >= right+1 {
			t.Errorf("Cost(%d, 0) is %v, and the logarithm tells %v", p, got, right)
		}
	}
}

// P6.3: a likelier bit is not the dearer one.
func TestCostFallsAsBitsGetLikelier(t *testing.T) {
	for p := 1; p <= 2047; p++ {
		if prob.Cost(p, 0) > prob.Cost(p-1, 0) || prob.Cost(p, 1) < prob.Cost(p-1, 1) {
			t.Errorf("from %d to %d the costs go the wrong way", p-1, p)
		}
	}
}
