package check_test

import (
	"bytes"
	"math/rand"
	"testing"

	"pith/api"
	"pith/check"
)

// burst: b with the bits of mask turned from its bit at on, counted from the lowest of each byte up.
func burst(b []byte, at int, mask uint64) []byte {
	other := bytes.Clone(b)
	for i := at; mask != 0; i++ {
		if mask%2 == 1 {
			other[i/8] ^= 1 << (i % 8)
		}
		mask /= 2
	}
	return other
}

// wantTold: the check of b with the burst is another one, and Same tells it.
func wantTold(t *testing.T, kind int, b []byte, at int, mask uint64) {
	t.Helper()
	other := burst(b, at, mask)
	before, _ := check.Sum(kind, b)
	after, _ := check.Sum(kind, other)
	if bytes.Equal(before, after) {
		t.Fatalf("kind %d: %X turned from bit %d of %d bytes: the check is % X still", kind, mask, at, len(b), after)
	}
	wantSame(t, api.ErrCheck, kind, other, before)
}

// chanceBurst: a burst of just n bits: its first and its last are turned, between them by chance.
func chanceBurst(r *rand.Rand, n int) uint64 {
	mask := r.Uint64()
	switch r.Intn(4) {
	case 0:
		mask = 0
	case 1:
		mask = 1<<64 - 1
	}
	return mask>>(64-n) | 1 | 1<<(n-1)
}

// P5.6: bursts of every length up to the kind's bits, at every place.
func TestBursts(t *testing.T) {
	r := rand.New(rand.NewSource(561))
	for kind, most := range map[int]int{1: 32, 4: 64} {
		for _, size := range []int{1, 4, 8, 9, 13, 70} {
			b := chanceBytes(r, size)
			for n := 1; n <= min(most, 8*size); n++ {
				for at := range 8*size - n + 1 {
					wantTold(t, kind, b, at, chanceBurst(r, n))
				}
			}
		}
	}
}

// P5.6: every burst of up to ten bits, at every place of some bytes.
func TestEveryShortBurst(t *testing.T) {
	b := chanceBytes(rand.New(rand.NewSource(562)), 5)
	for _, kind := range []int{1, 4} {
		for mask := uint64(1); mask < 1<<10; mask++ {
			for at := range 8*len(b) - 9 {
				wantTold(t, kind, b, at, mask)
			}
		}
	}
}

// P5.6: bursts of the greatest length in long data, near both ends and by chance.
func TestBurstsInLongData(t *testing.T) {
	r := rand.New(rand.NewSource(563))
	b := chanceBytes(r, 5000)
	for kind, most := range map[int]int{1: 32, 4: 64} {
		last := 8*len(b) - most
		for _, at := range []int{0, 1, 7, 8, last - 1, last, r.Intn(last), r.Intn(last)} {
			for range 10 {
				wantTold(t, kind, b, at, chanceBurst(r, most))
			}
		}
	}
}

// P5.6: one bit more, and a CRC may stay as it was: this burst is the polynomial itself, so the bounds above are the edge.
func TestBurstBeyondTheBound(t *testing.T) {
	b := chanceBytes(rand.New(rand.NewSource(564)), 9)
	// 33 bits, and 65: the polynomial's highest power first, which its number leaves out.
	wantSum(t, 1, checkOf(1, b), burst(burst(b, 0, 1), 1, 0xEDB88320))
	wantSum(t, 4, checkOf(4, b), burst(burst(b, 0, 1), 1, 0xC96C5795D7870F42))
}
