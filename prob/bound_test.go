package prob_test

import (
	"math/rand"
	"testing"

	"pith/prob"
)

func wantBound(t *testing.T, rng uint32, p int, want uint32) {
	t.Helper()
	if got := prob.Bound(rng, p); got != want {
		t.Errorf("Bound(%d, %d) is %d, want %d", rng, p, got, want)
	}
}

// boundOf: by the words of the chapter, with room to spare.
func boundOf(rng uint32, p int) uint32 {
	return uint32(uint64(rng) / 2048 * uint64(taken(p)))
}

// ranges: at and beside the edges.
var ranges = []uint32{0, 1, 2046, 2047, 2048, 2049, 4095, 4096, 1<<16 - 1, 1 << 16, 1<<24 - 1, 1 << 24, 1<<24 + 1, 1<<31 - 1, 1 << 31, 0x7FFFFC00, 4294967295 - 2048, 4294967295 - 2047, 4294967294, 4294967295}

// P6.2: the chapter's examples.
func TestBoundOfTheExamples(t *testing.T) {
	wantBound(t, 4294967295, 1024, 2147482624)
	wantBound(t, 2047, 1024, 0)
	wantBound(t, 2048, 5, 5)
	wantBound(t, 16777216, -1, 0)
}

// P6.2: the least and the greatest ranges and probabilities.
func TestBoundAtItsEdges(t *testing.T) {
	wantBound(t, 0, 0, 0)
	wantBound(t, 0, 2047, 0)
	wantBound(t, 2047, 2047, 0)
	wantBound(t, 2048, 0, 0)
	wantBound(t, 2048, 2047, 2047)
	wantBound(t, 4295, 3, 6)
	wantBound(t, 4294967295, 0, 0)
	wantBound(t, 4294967295, 1, 2097151)
	wantBound(t, 4294967295, 2047, 4292868097)
	wantBound(t, 16777216, 5000, 16769024)
}

// P6.2: every probability, at every edge of a range and at ranges by chance.
func TestBoundOfEveryProbability(t *testing.T) {
	r := rand.New(rand.NewSource(621))
	for p := 0; p <= 2047; p++ {
		for _, rng := range ranges {
			wantBound(t, rng, p, boundOf(rng, p))
		}
		for range 20 {
			rng := r.Uint32()
			wantBound(t, rng, p, boundOf(rng, p))
		}
	}
}

// P6.2: what is below 0 is taken as 0, what is above 2047 as 2047.
func TestBoundBelowAndAbove(t *testing.T) {
	for _, rng := range ranges {
		for _, p := range below {
			wantBound(t, rng, p, 0)
		}
		for _, p := range above {
			wantBound(t, rng, p, rng/2048*2047)
		}
	}
}

// P6.2, P6.6: a range of a coder (2^24 and more) is cut into two parts, neither of them empty, by any probability that began at Half.
func TestBoundLeavesBothParts(t *testing.T) {
	for p := 31; p <= 2017; p++ {
		for _, rng := range []uint32{1 << 24, 1<<24 + 2047, 1 << 31, 4294967295} {
			if b := prob.Bound(rng, p); b == 0 || b >= rng {
				t.Errorf("Bound(%d, %d) is %d", rng, p, b)
			}
		}
	}
}
