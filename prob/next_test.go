package prob_test

import (
	"testing"

	"pith/prob"
)

// P6.1: the face's numbers, which the other layers take from here.
func TestNumbersOfTheFace(t *testing.T) {
	if prob.Bits != 11 || prob.Half != 1024 || prob.Move != 5 {
		t.Errorf("Bits, Half, Move are %d, %d, %d; want 11, 1024, 5", prob.Bits, prob.Half, prob.Move)
	}
}

func wantNext(t *testing.T, p, bit, want int) {
	t.Helper()
	if got := prob.Next(p, bit); got != want {
		t.Errorf("Next(%d, %d) is %d, want %d", p, bit, got, want)
	}
}

// P6.1: the chapter's examples.
func TestNextOfTheExamples(t *testing.T) {
	for _, c := range [][3]int{
		{1024, 0, 1056}, {1024, 1, 992},
		{2017, 0, 2017}, {31, 1, 31}, {2016, 0, 2017}, {32, 1, 31},
		{0, 0, 64}, {2047, 1, 1984}, {-5, 0, 64}, {9999, 7, 1984},
	} {
		wantNext(t, c[0], c[1], c[2])
	}
}

// P6.1: every probability, behind either bit.
func TestNextOfEveryProbability(t *testing.T) {
	for p := 0; p <= 2047; p++ {
		wantNext(t, p, 0, p+(2048-p)/32)
		wantNext(t, p, 1, p-p/32)
	}
}

// P6.1: the edges of what moves and what stays.
func TestNextAtItsEdges(t *testing.T) {
	for _, c := range [][3]int{
		{0, 1, 0}, {1, 1, 1}, {30, 1, 30}, {63, 1, 62}, {64, 1, 62}, {1023, 1, 992},
		{2047, 0, 2047}, {2018, 0, 2018}, {1985, 0, 1986}, {1984, 0, 1986}, {1, 0, 64}, {1023, 0, 1055},
	} {
		wantNext(t, c[0], c[1], c[2])
	}
}

// P6.1: what is below 0 is taken as 0, what is above 2047 as 2047.
func TestNextBelowAndAbove(t *testing.T) {
	for _, p := range below {
		wantNext(t, p, 0, 64)
		wantNext(t, p, 1, 0)
	}
	for _, p := range above {
		wantNext(t, p, 0, 2047)
		wantNext(t, p, 1, 1984)
	}
}

// P6.1: a bit that is not 0 counts as 1.
func TestNextByAnyBit(t *testing.T) {
	for _, bit := range ones {
		for p := -3; p <= 2050; p++ {
			wantNext(t, p, bit, moved(p, 1))
		}
	}
}

// P6.7: behind a 0 no probability is less than before, behind a 1 none is more.
func TestMovesTowardsTheBit(t *testing.T) {
	for p := 0; p <= 2047; p++ {
		if q := prob.Next(p, 0); q < p || q > 2047 {
			t.Errorf("%d is %d behind a 0", p, q)
		}
		if q := prob.Next(p, 1); q > p || q < 0 {
			t.Errorf("%d is %d behind a 1", p, q)
		}
	}
}

// P6.7: of any two probabilities the greater does not become the less.
func TestMovesKeepTheOrder(t *testing.T) {
	for _, bit := range []int{0, 1} {
		for p := 0; p <= 2047; p++ {
			for q := p; q <= 2047; q++ {
				if prob.Next(p, bit) > prob.Next(q, bit) {
					t.Fatalf("behind a %d, %d is above %d", bit, p, q)
				}
			}
		}
	}
}
