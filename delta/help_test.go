package delta_test

import (
	"bytes"
	"math"
	"math/rand"
	"testing"

	"pith/api"
	"pith/delta"
)

// noDistances: numbers that are no distance, the edges first, and those that become one where an int is cut short.
var noDistances = []int{
	0, -1, 257, -2, 258, 511, 512, 513, -255, -256, -257, 65536, 65537, 65792, 1 << 31, -1 << 31, 1 << 32, 1<<32 + 1, 1<<32 + 256, -1<<32 + 1, -1<<32 + 256,
	1 << 62, math.MinInt, math.MinInt + 1, math.MinInt + 256, math.MaxInt - 1, math.MaxInt,
}

// edges: the distances at which something could go wrong.
var edges = []int{1, 2, 255, 256}

// way: one of the two directions: its call for the whole, and the same by the words of the chapter.
type way struct {
	name  string
	back  bool
	whole func(b []byte, dist int) ([]byte, api.Errno)
	words func(b []byte, dist int) []byte
}

var ways = []way{{"Encode", false, delta.Encode, differences}, {"Decode", true, delta.Decode, sums}}

// at: x[i], which is 0 for i below 0.
func at(x []byte, i int) int {
	if i < 0 {
		return 0
	}
	return int(x[i])
}

// differences: y[i] = x[i] - x[i - d], modulo 256.
func differences(x []byte, d int) []byte {
	y := make([]byte, len(x))
	for i := range x {
		y[i] = byte((256 + at(x, i) - at(x, i-d)) % 256)
	}
	return y
}

// sums: x[i] = y[i] + x[i - d], modulo 256.
func sums(y []byte, d int) []byte {
	x := make([]byte, len(y))
	for i := range y {
		x[i] = byte((at(y, i) + at(x, i-d)) % 256)
	}
	return x
}

// lengths: of data, at all edges of a distance and of the ring.
func lengths(d int) []int {
	l := []int{0, 1, 2, 3, 254, 255, 256, 257, 258, 300, 510, 511, 512, 513, 514, 767, 768, 769, 1000, 1025}
	for k := 1; k <= 5; k++ {
		l = append(l, k*d-1, k*d, k*d+1)
	}
	return l
}

// chanceBytes: n of them.
func chanceBytes(r *rand.Rand, n int) []byte {
	b := make([]byte, n)
	for i := range b {
		b[i] = byte(r.Intn(256))
	}
	return b
}

// count: n bytes, none like its neighbours, and not the same from 256 to 256.
func count(n int) []byte {
	b := make([]byte, n)
	for i := range b {
		b[i] = byte(i*7 + i/256*3 + 1)
	}
	return b
}

// samples: data of n bytes of several kinds: great steps and small ones, up and down, and none.
func samples(r *rand.Rand, n int) [][]byte {
	down, turns := make([]byte, n), make([]byte, n)
	for i := range n {
		down[i] = byte(-i)
		turns[i] = byte(i%2*255 + i/256)
	}
	return [][]byte{chanceBytes(r, n), count(n), down, turns, make([]byte, n), bytes.Repeat([]byte{255}, n), bytes.Repeat([]byte{128}, n)}
}

// wantWhole: the call for the whole answers just these bytes.
func wantWhole(t *testing.T, w way, b []byte, d int, want []byte) {
	t.Helper()
	got, errno := w.whole(b, d)
	if !bytes.Equal(got, want) || errno != api.OK {
		t.Fatalf("%s of %d bytes, distance %d: %s, error %d, want %s", w.name, len(b), d, shown(got), errno, shown(want))
	}
}

// all: the whole's answer, which is no error.
func all(t *testing.T, w way, b []byte, d int) []byte {
	t.Helper()
	got, errno := w.whole(b, d)
	if len(got) != len(b) || errno != api.OK {
		t.Fatalf("%s of %d bytes, distance %d: %d bytes, error %d", w.name, len(b), d, len(got), errno)
	}
	return got
}

// made: a filter of that distance and direction.
func made(t *testing.T, d int, back bool) *delta.Filter {
	t.Helper()
	f, errno := delta.New(d, back)
	if f == nil || errno != api.OK {
		t.Fatalf("New(%d, %v): a filter %v, error %d", d, back, f != nil, errno)
	}
	return f
}

// wantNext: the filter answers just these bytes of the piece.
func wantNext(t *testing.T, f *delta.Filter, b, want []byte) {
	t.Helper()
	if got := f.Next(b); !bytes.Equal(got, want) {
		t.Fatalf("Next of %d bytes: %s, want %s", len(b), shown(got), shown(want))
	}
}

// inPieces: the answers of a filter to b in pieces that end at the cuts and at its end, one behind the other; each has as many bytes as its piece.
func inPieces(t *testing.T, f *delta.Filter, b []byte, cuts ...int) []byte {
	t.Helper()
	out, from := []byte{}, 0
	for _, to := range append(cuts, len(b)) {
		piece := f.Next(b[from:to])
		if len(piece) != to-from {
			t.Fatalf("Next of %d bytes: %d bytes", to-from, len(piece))
		}
		out = append(out, piece...)
		from = to
	}
	return out
}

// shown: the first bytes alone, where they are many.
func shown(b []byte) string {
	const digits = "0123456789ABCDEF"
	s := ""
	for i, c := range b {
		if i == 40 {
			return s + " .."
		}
		s += " " + string(digits[c/16]) + string(digits[c%16])
	}
	return "[" + s + " ]"
}

// spoil: every byte, and every byte of the spare room.
func spoil(b []byte) {
	b = b[:cap(b)]
	for i := range b {
		b[i] = ^b[i]
	}
}
