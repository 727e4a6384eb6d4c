package stream_test

import (
	"bytes"
	"errors"
	"math/rand"
	"testing"

	"pith/api"
	"pith/stream"
)

// burst: b with the bits of mask turned over, from its bit at on; false, if one of them would lie at the byte end or behind it.
func burst(b []byte, at, end int, mask uint32) ([]byte, bool) {
	other := bytes.Clone(b)
	for i := range 32 {
		if mask>>i%2 == 0 {
			continue
		}
		if at+i >= 8*end {
			return nil, false
		}
		other[(at+i)/8] ^= 1 << ((at + i) % 8)
	}
	return other, true
}

// bursts: one of each width, 1 to 32: its ends alone, all of it, and by chance between the ends.
func bursts(r *rand.Rand) []uint32 {
	all := []uint32{1}
	for width := 2; width <= 32; width++ {
		ends := uint32(1)<<(width-1) | 1
		full := uint32(1<<width - 1)
		all = append(all, ends, full, r.Uint32()&full|ends)
	}
	return all
}

// wantBurstsTold: P25.6, P6, at every place from one byte up to another.
func wantBurstsTold(t *testing.T, r *rand.Rand, f []byte, from, end int) {
	t.Helper()
	for at := 8 * from; at < 8*end; at++ {
		for _, mask := range bursts(r) {
			other, ok := burst(f, at, end, mask)
			if !ok {
				continue
			}
			var fault *stream.Fault
			if d, e := stream.Decode(other, 4096); len(d) > 0 || !errors.As(e, &fault) {
				t.Errorf("Decode(%s, 4096): the bits %b from %d on are not told: %v", shown(other), mask, at, e)
			}
			if mask < 8 {
				wantByWords(t, other, 4096)
			}
		}
	}
}

// P25.6: in the file's header, in the index behind its first byte, and in the footer, also across the seams within them.
func TestBurstsInTheFrame(t *testing.T) {
	t.Parallel()
	r := rand.New(rand.NewSource(253))
	for _, kind := range kinds {
		for _, n := range []int{0, 3, 150} {
			// The last one has numbers of two bytes in its index.
			c := with(kind, 0, 0, max(5, n-1))
			f := made(t, text(n), c)
			front := where(partsOf(t, f), indexMark)[0]
			if n < 4 {
				wantBurstsTold(t, r, f, 0, 12)
			}
			wantBurstsTold(t, r, f, front+1, len(f)-12)
			wantBurstsTold(t, r, f, len(f)-12, len(f))
		}
	}
}

// P25.6: in each block's header behind its first byte.
func TestBurstsInBlocksHeaders(t *testing.T) {
	t.Parallel()
	r := rand.New(rand.NewSource(254))
	for i, c := range []api.Config{with(0, 0, 0, 70), with(1, 0, 1, 70), with(4, 1, 256, 120), with(10, 0, 2, 120)} {
		f := made(t, text(110+i), c)
		for _, front := range where(partsOf(t, f), blockHeader) {
			wantBurstsTold(t, r, f, front+1, front+12)
		}
	}
}
