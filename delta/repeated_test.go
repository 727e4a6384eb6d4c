package delta_test

import (
	"bytes"
	"math/rand"
	"testing"
)

// repeated: the row again and again, n bytes in all.
func repeated(row []byte, n int) []byte {
	return bytes.Repeat(row, n/len(row)+1)[:n]
}

// firstAlone: the first d bytes, and zeros behind them.
func firstAlone(b []byte, d int) []byte {
	first := b[:min(d, len(b))]
	return append(bytes.Clone(first), make([]byte, len(b)-len(first))...)
}

// P19.5: rows of a distance that repeat, written out: differences of them are 0 behind the first one.
func TestRepeatedByHand(t *testing.T) {
	wantWhole(t, ways[0], []byte{9, 9, 9, 9}, 1, []byte{9, 0, 0, 0})
	wantWhole(t, ways[0], []byte{1, 2, 3, 1, 2, 3, 1}, 3, []byte{1, 2, 3, 0, 0, 0, 0})
	wantWhole(t, ways[0], []byte{1, 2, 1, 2, 1, 2, 1}, 4, []byte{1, 2, 1, 2, 0, 0, 0})
	wantWhole(t, ways[0], []byte{1, 2, 3}, 3, []byte{1, 2, 3})
	wantWhole(t, ways[1], []byte{1, 2, 3, 0, 0, 0, 0}, 3, []byte{1, 2, 3, 1, 2, 3, 1})
}

// P19.5: at every distance, data of all lengths; and zeros behind the first row are taken back as its repetitions.
func TestRepeated(t *testing.T) {
	r := rand.New(rand.NewSource(1951))
	for d := 1; d <= 256; d++ {
		row := chanceBytes(r, d)
		for _, n := range lengths(d) {
			b := repeated(row, n)
			wantWhole(t, ways[0], b, d, firstAlone(b, d))
			wantWhole(t, ways[1], firstAlone(b, d), d, b)
		}
	}
}

// P19.5: rows shorter than the distance, which go into it a whole number of times.
func TestShorterRowsRepeated(t *testing.T) {
	r := rand.New(rand.NewSource(1952))
	for _, d := range []int{2, 4, 12, 120, 240, 255, 256} {
		for size := 1; size <= d; size++ {
			if d%size != 0 {
				continue
			}
			b := repeated(chanceBytes(r, size), 5*d+1)
			wantWhole(t, ways[0], b, d, firstAlone(b, d))
		}
	}
}

// P19.5: in pieces too: behind the first distance bytes a filter answers zeros alone.
func TestRepeatedInPieces(t *testing.T) {
	r := rand.New(rand.NewSource(1953))
	for _, d := range edges {
		row := chanceBytes(r, d)
		f, g := made(t, d, false), made(t, d, true)
		wantNext(t, f, row, row)
		wantNext(t, g, row, row)
		for range 600 {
			wantNext(t, f, row, make([]byte, d))
			wantNext(t, g, make([]byte, d), row)
		}
	}
}

// P19.5: a row that is not of the distance is not taken for one.
func TestRowsOfAnotherLength(t *testing.T) {
	b := repeated(count(5), 300)
	for _, d := range []int{1, 2, 3, 4, 6, 254, 256} {
		if got := all(t, ways[0], b, d); bytes.Equal(got, firstAlone(b, d)) {
			t.Errorf("rows of five, distance %d: %s", d, shown(got))
		}
	}
}
