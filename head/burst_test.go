package head_test

import (
	"bytes"
	"math/rand"
	"testing"

	"pith/api"
)

// turned: b with the bits of mask turned over, from its bit at on; false, if one of them would lie behind its end.
func turned(b []byte, at int, mask uint32) ([]byte, bool) {
	other := bytes.Clone(b)
	for i := range 32 {
		if mask>>i%2 == 0 {
			continue
		}
		if at+i >= 8*len(b) {
			return nil, false
		}
		other[(at+i)/8] ^= 1 << ((at + i) % 8)
	}
	return other, true
}

// masks: a burst of each width, 1 to 32: its ends alone, all of it, and by chance between the ends.
func masks(r *rand.Rand) []uint32 {
	all := []uint32{1}
	for width := 2; width <= 32; width++ {
		ends := uint32(1)<<(width-1) | 1
		full := uint32(1<<width - 1)
		all = append(all, ends, full, r.Uint32()&full|ends)
	}
	return all
}

// P21.4: bursts at every place behind the first byte, whatever stands behind the header.
func TestBursts(t *testing.T) {
	r := rand.New(rand.NewSource(214))
	for _, h := range []api.Head{plain(lzma(0)), plain(apart(256), lzma(40)), headOf(5, 300, lzma(0)), headOf(greatest, 0, apart(1), lzma(22))} {
		for pad := range 2 {
			b := laid(t, h, pad)
			for at := 8; at < 8*len(b); at++ {
				for _, mask := range masks(r) {
					if other, ok := turned(b, at, mask); ok {
						wantNoGet(t, other, api.ErrCheck)
						wantNoGet(t, append(other, 0, 1), api.ErrCheck)
					}
				}
			}
		}
	}
}

// P21.4: in a long header, a few at each place.
func TestBurstsInALongHeader(t *testing.T) {
	r := rand.New(rand.NewSource(215))
	b := laid(t, headOf(1<<40, 1<<30, apart(4), lzma(9)), 245)
	if len(b) < 1000 {
		t.Fatalf("%d bytes", len(b))
	}
	for at := 8; at < 8*len(b); at++ {
		for _, mask := range []uint32{1, 3, 1<<31 | 1, 1<<32 - 1, r.Uint32() | 1} {
			if other, ok := turned(b, at, mask); ok {
				wantNoGet(t, other, api.ErrCheck)
			}
		}
	}
}
