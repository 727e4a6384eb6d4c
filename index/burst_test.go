package index_test

import (
	"bytes"
	"math/rand"
	"testing"

	"pith/api"
	"pith/index"
)

// turned: b with the bits of mask turned over, from its bit at on; false, if one of them would lie behind its end.
func turned(b []byte, at int, mask uint32) ([]byte, bool) {
	other := bytes.Clone(b)
	for i := range 32 {
		if mask>>i%2 == 0 {
			continue
		}
		if at+i >= 8*len(b) {
			return nil, false
		}
		other[(at+i)/8] ^= 1 << ((at + i) % 8)
	}
	return other, true
}

// masks: a burst of each width, 1 to 32: its ends alone, all of it, and by chance between the ends.
func masks(r *rand.Rand) []uint32 {
	all := []uint32{1}
	for width := 2; width <= 32; width++ {
		ends := uint32(1)<<(width-1) | 1
		full := uint32(1<<width - 1)
		all = append(all, ends, full, r.Uint32()&full|ends)
	}
	return all
}

// wantTold: P23.6, of an index in which something is turned: an error, or another number of bytes.
func wantTold(t *testing.T, b []byte, was int) {
	t.Helper()
	l, n, errno := index.Get(b)
	if errno == api.OK && n == was || errno != api.OK && (len(l) != 0 || n != 0) {
		t.Errorf("Get(%s): %s, %d, error %d", shown(b), shownList(l), n, errno)
	}
}

// P23.6: bursts of 1 to 32 bits at every place, whatever stands behind the index.
func TestBursts(t *testing.T) {
	r := rand.New(rand.NewSource(238))
	for _, l := range [][]api.Record{nil, list(19, 3), list(130, 300), list(19, 3, 20, 0, 21, 5), list(greatest-3, greatest), list(128, 1), list(5, 0, 5, 0), many(13, 5), many(14, 12)} {
		b := laid(t, l)
		for at := range 8 * len(b) {
			for _, mask := range masks(r) {
				other, ok := turned(b, at, mask)
				if !ok {
					continue
				}
				for _, behind := range [][]byte{nil, {0, 0, 0, 0, 0, 0, 0, 0}, b} {
					wantTold(t, append(other[:len(b):len(b)], behind...), len(b))
				}
			}
		}
	}
}

// P23.6: in an index of many records, a few at each place.
func TestBurstsInALongIndex(t *testing.T) {
	r := rand.New(rand.NewSource(239))
	b := laid(t, many(15, 130))
	for at := range 8 * len(b) {
		for _, mask := range []uint32{1, 3, 1<<31 | 1, 1<<32 - 1, r.Uint32() | 1} {
			if other, ok := turned(b, at, mask); ok {
				wantTold(t, other, len(b))
				wantTold(t, append(other, 0, 0, 0, 0), len(b))
			}
		}
	}
}

// P23.6: every beginning of an index, cut off anywhere.
func TestBeginnings(t *testing.T) {
	for _, l := range rightLists() {
		b := laid(t, l)
		step := 1 + len(b)/500
		for n := 0; n < len(b); n += step {
			wantNoGet(t, b[:n], api.ErrTruncated)
		}
		for n := max(0, len(b)-9); n < len(b); n++ {
			wantNoGet(t, b[:n], api.ErrTruncated)
			// What lies in the room behind a list is none of it.
			wantNoGet(t, withRoom(b[:n], b[n:]...), api.ErrTruncated)
		}
	}
}
