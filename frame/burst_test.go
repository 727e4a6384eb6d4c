package frame_test

import (
	"bytes"
	"math/rand"
	"testing"

	"pith/api"
	"pith/frame"
)

// turned: b with the bits of mask turned over, from its bit at on; false, if one of them would lie at the bit end or behind it.
func turned(b []byte, at, end int, mask uint32) ([]byte, bool) {
	other := bytes.Clone(b)
	for i := range 32 {
		if mask>>i%2 == 0 {
			continue
		}
		if at+i >= end {
			return nil, false
		}
		other[(at+i)/8] ^= 1 << ((at + i) % 8)
	}
	return other, true
}

// masks: a burst of each width, 1 to 32: its ends alone, all of it, and by chance between the ends.
func masks(r *rand.Rand) []uint32 {
	all := []uint32{1}
	for width := 2; width <= 32; width++ {
		ends := uint32(1)<<(width-1) | 1
		full := uint32(1<<width - 1)
		all = append(all, ends, full, r.Uint32()&full|ends)
	}
	return all
}

// wantHeaderRefused: P24.5, by its mark or its CRC, as no burst leaves both right.
func wantHeaderRefused(t *testing.T, b []byte) {
	t.Helper()
	if kind, errno := frame.ReadHeader(b); kind != 0 || errno != api.ErrFormat && errno != api.ErrCheck {
		t.Errorf("ReadHeader(%s): %d, error %d", shown(b), kind, errno)
	}
}

// P24.5: bursts of 1 to 32 bits at every place of a header, on both sides of seams too, whatever stands behind it.
func TestHeaderBursts(t *testing.T) {
	r := rand.New(rand.NewSource(244))
	for _, kind := range kinds {
		b := laidHeader(t, kind)
		for at := range 8 * len(b) {
			for _, mask := range append(masks(r), r.Uint32()|1, r.Uint32()|1, r.Uint32()|1) {
				if other, ok := turned(b, at, 8*len(b), mask); ok {
					wantHeaderRefused(t, other)
					wantHeaderRefused(t, append(other, b...))
				}
			}
		}
	}
}

// P24.5: bursts of 1 to 32 bits at every place of a footer's parts: its sum, what this guards, and the mark.
func TestFooterBursts(t *testing.T) {
	r := rand.New(rand.NewSource(245))
	for _, kind := range kinds {
		for _, index := range []int{4, 8, 1024, 750008, mostIndex - 4, mostIndex} {
			b := laidFooter(t, kind, index)
			for _, part := range []struct {
				from, to int
				want     api.Errno
			}{{0, 32, api.ErrCheck}, {32, 80, api.ErrCheck}, {80, 96, api.ErrFormat}} {
				for at := part.from; at < part.to; at++ {
					for _, mask := range append(masks(r), r.Uint32()|1) {
						if other, ok := turned(b, at, part.to, mask); ok {
							wantNoReadFooter(t, other, part.want)
							wantNoReadFooter(t, append(other, b...), part.want)
						}
					}
				}
			}
		}
	}
}

// P24.5: all that can become of a footer's mark.
func TestFooterMarks(t *testing.T) {
	for mark := range 65536 {
		b := footerOf(2, 0, 1)
		b[10], b[11] = byte(mark), byte(mark>>8)
		wantReadByWords(t, b)
		if _, _, errno := frame.ReadFooter(b); (errno == api.OK) != (mark == 0x5A59) {
			t.Errorf("ReadFooter(%s): error %d", shown(b), errno)
		}
	}
}
