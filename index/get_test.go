package index_test

import (
	"bytes"
	"math/rand"
	"slices"
	"testing"

	"pith/api"
)

// P23.2: the chapter's examples.
func TestGetOfExamples(t *testing.T) {
	wantGet(t, []byte{0x00, 0x00, 0x00, 0x00, 0x1C, 0xDF, 0x44, 0x21, 0xFF}, nil, 8)
	for _, c := range []struct {
		b []byte
		e api.Errno
	}{
		{nil, api.ErrTruncated},
		{[]byte{0x01}, api.ErrFormat},
		{[]byte{0x00}, api.ErrTruncated},
		{[]byte{0x00, 0x80, 0x00}, api.ErrFormat},
		{[]byte{0x00, 0x01, 0x13}, api.ErrTruncated},
		{[]byte{0x00, 0x01, 0x04}, api.ErrFormat},
		{[]byte{0x00, 0x00, 0x00}, api.ErrTruncated},
		{[]byte{0x00, 0x00, 0x00, 0x01}, api.ErrFormat},
		{[]byte{0x00, 0x00, 0x00, 0x00, 0x1C, 0xDF, 0x44}, api.ErrTruncated},
		{[]byte{0x00, 0x00, 0x00, 0x00, 0x1C, 0xDF, 0x44, 0x20}, api.ErrCheck},
	} {
		wantNoGet(t, c.b, c.e)
	}
}

// P23.2: no byte, and every first byte that is not 0, whatever stands behind it.
func TestGetOfTheFirstByte(t *testing.T) {
	wantNoGet(t, nil, api.ErrTruncated)
	wantNoGet(t, []byte{}, api.ErrTruncated)
	for x := 1; x < 256; x++ {
		first := byte(x)
		wantNoGet(t, []byte{first}, api.ErrFormat)
		wantNoGet(t, sealed(first, 0, 0, 0), api.ErrFormat)
		wantNoGet(t, sealed(first, 1, 19, 3), api.ErrFormat)
		wantNoGet(t, []byte{first, 0x80, 0x00}, api.ErrFormat)
	}
}

// wrongNumbers: the bytes of none, not in the least form or beyond nine bytes.
func wrongNumbers() [][]byte {
	return [][]byte{
		{0x80, 0x00}, {0xFF, 0x00}, {0x85, 0x80, 0x00}, {0x93, 0x80, 0x80, 0x00},
		append(bytes.Repeat([]byte{0x80}, 8), 0x00), append(bytes.Repeat([]byte{0xFF}, 8), 0x00), bytes.Repeat([]byte{0xFF}, 9), append(bytes.Repeat([]byte{0x80}, 8), 0x81), append(bytes.Repeat([]byte{0xFF}, 9), 0x01),
	}
}

// halfNumbers: bytes behind which more of the number is awaited.
func halfNumbers() [][]byte {
	return [][]byte{{}, {0x80}, {0xFF}, {0x93, 0x80}, bytes.Repeat([]byte{0x80}, 8), bytes.Repeat([]byte{0xFF}, 8)}
}

// P23.2: each number, cut off or not in its least form: the number of records, an unpadded size and a plain one, of the first record and of a later one.
func TestGetOfNumbers(t *testing.T) {
	for _, ahead := range [][]byte{row(), row(1), row(1, 19), row(3, 19, 3, 20, 0), row(3, 19, 3, 20, 0, 21), row(200, 19, 3, 20)} {
		for _, half := range halfNumbers() {
			wantNoGet(t, slices.Concat(ahead, half), api.ErrTruncated)
		}
		for _, wrong := range wrongNumbers() {
			wantNoGet(t, slices.Concat(ahead, wrong), api.ErrFormat)
			wantNoGet(t, slices.Concat(ahead, wrong, []byte{5, 0, 0, 0, 0, 0, 0}), api.ErrFormat)
			wantNoGet(t, filled(slices.Concat(ahead, wrong)...), api.ErrFormat)
		}
	}
}

// P23.2: a number of records that is greater than the bytes that follow allow: what lacks is told where it lacks.
func TestGetOfTooManyRecords(t *testing.T) {
	for _, n := range []uint64{2, 3, 127, 128, 16384, 1 << 31, 1 << 32, 1<<32 + 1, 1 << 40, 1 << 62, greatest - 1, greatest} {
		wantNoGet(t, row(n), api.ErrTruncated)
		wantNoGet(t, row(n, 19, 3), api.ErrTruncated)
		wantNoGet(t, row(n, 19, 3, 20), api.ErrTruncated)
		wantNoGet(t, row(n, 4), api.ErrFormat)
		wantNoGet(t, row(n, 19, 3, 4), api.ErrFormat)
		// The zeros of a shorter index are an unpadded size here, which is not right.
		wantNoGet(t, append(row(n, 19, 3), 0, 0, 0, 0), api.ErrFormat)
		wantNoGet(t, filled(row(n, 19, 3, 0)...), api.ErrFormat)
	}
}

// P23.2: fewer records than there are: what follows would be zeros.
func TestGetOfTooFewRecords(t *testing.T) {
	wantNoGet(t, sealed(0, 0, 19, 3), api.ErrFormat)
	wantNoGet(t, sealed(0, 1, 0x82, 1, 1, 8, 1, 0), api.ErrFormat)
	// Where no zeros are wanted, the sum would be there.
	wantNoGet(t, sealed(0, 1, 19, 3, 20, 0, 21, 5), api.ErrCheck)
}

// P23.2: unpadded sizes that are not right are told at once, also where nothing follows; those at the edges are right.
func TestGetOfUnpaddedSizes(t *testing.T) {
	for _, u := range []uint64{0, 1, 2, 3, 4, greatest - 2, greatest - 1, greatest} {
		for _, behind := range [][]byte{nil, {0}, {0x80}, {0x80, 0}, {5, 0, 0, 0, 0, 0, 0, 0}} {
			wantNoGet(t, append(row(1, u), behind...), api.ErrFormat)
			wantNoGet(t, append(row(2, 19, 3, u), behind...), api.ErrFormat)
			wantNoGet(t, append(row(1<<40, 19, 3, u), behind...), api.ErrFormat)
		}
		wantNoGet(t, filled(row(1, u, 0)...), api.ErrFormat)
	}
	for _, u := range []int{5, 6, 7, 8, greatest - 6, greatest - 5, greatest - 4, greatest - 3} {
		b := filled(row(1, uint64(u), 0)...)
		wantGet(t, b, list(u, 0), len(b))
		wantNoGet(t, row(1, uint64(u)), api.ErrTruncated)
	}
}

// P23.2: sums that pass MaxNumber are told at the field at which they do, also where nothing follows it; just ahead of it the next field is awaited.
func TestGetOfSums(t *testing.T) {
	for _, c := range []struct {
		passed bool
		v      []uint64
	}{
		{false, []uint64{2, greatest - 11, 0, 8}},
		{true, []uint64{2, greatest - 11, 0, 9}},
		{false, []uint64{2, greatest - 11, 0, 5}},
		{true, []uint64{2, greatest - 10, 0, 5}},
		{true, []uint64{2, greatest - 3, 0, 5}},
		{true, []uint64{2, 5, 0, greatest - 3}},
		{false, []uint64{2, 5, 0, greatest - 11}},
		{true, []uint64{2, 1 << 62, 0, 1 << 62}},
		{false, []uint64{2, 1 << 62, 0, 1<<62 - 4}},
		{true, []uint64{3, 1 << 62, 0, 1<<62 - 4, 0, 5}},
		{true, []uint64{1 << 50, greatest - 3, greatest, greatest - 3}},
		{false, []uint64{1, 5, greatest}},
		{false, []uint64{2, 5, greatest, 5, 0}},
		{true, []uint64{2, 5, greatest, 5, 1}},
		{true, []uint64{2, 5, 1, 5, greatest}},
		{false, []uint64{2, 5, 1, 5, greatest - 1}},
		{true, []uint64{2, 5, greatest, 5, greatest}},
		{true, []uint64{2, 5, 1 << 62, 5, 1 << 62}},
		{false, []uint64{2, 5, 1 << 62, 5, 1<<62 - 1}},
		{true, []uint64{9, 5, 1 << 62, 5, 1<<62 - 1, 5, 1}},
	} {
		want := api.ErrTruncated
		if c.passed {
			want = api.ErrFormat
		}
		b := row(c.v...)
		wantNoGet(t, b, want)
		if c.passed {
			wantNoGet(t, append(b, 0x80), api.ErrFormat)
			wantNoGet(t, filled(b...), api.ErrFormat)
			wantNoGet(t, append(b, 5, 0, 0, 0, 0, 0, 0, 0), api.ErrFormat)
		}
		// Ahead of the last field nothing is told of it.
		wantNoGet(t, row(c.v[:len(c.v)-1]...), api.ErrTruncated)
	}
}

// zerosOf: an index that wants so many zeros, and where they begin.
func zerosOf(zeros int) ([]api.Record, []byte, int) {
	l := [][]api.Record{list(8, 1), list(128, 1, 8, 1), list(128, 128), list(128, 1)}[zeros]
	b := filled(rowOf(l)...)
	return l, b, len(b) - 4 - zeros
}

// P23.2: none, one, two and three zeros: each made another byte, each cut off; what lacks is told ahead of what is not 0, and that ahead of the sum.
func TestGetOfZeros(t *testing.T) {
	for zeros := range 4 {
		l, b, at := zerosOf(zeros)
		wantGet(t, b, l, len(b))
		for i := at; i < at+zeros; i++ {
			wantNoGet(t, b[:i], api.ErrTruncated)
			for x := 1; x < 256; x++ {
				other := bytes.Clone(b)
				other[i] = byte(x)
				wantNoGet(t, other, api.ErrFormat)
				wantNoGet(t, sealed(other[:at+zeros]...), api.ErrFormat)
				wantNoGet(t, other[:at+zeros], api.ErrFormat)
				wantNoGet(t, other[:at+zeros+3], api.ErrFormat)
				for end := at; end < at+zeros; end++ {
					wantNoGet(t, other[:end], api.ErrTruncated)
				}
			}
		}
	}
	// Four zeros are one word too many: the first of them would be the sum.
	wantNoGet(t, sealed(0, 1, 8, 1, 0, 0, 0, 0), api.ErrCheck)
}

// P23.2: each byte of the sum changed, and each cut off; what lacks is told ahead of what is wrong.
func TestGetOfTheSum(t *testing.T) {
	for zeros := range 4 {
		_, b, _ := zerosOf(zeros)
		end := len(b) - 4
		for i := end; i < len(b); i++ {
			wantNoGet(t, b[:i], api.ErrTruncated)
			for x := 1; x < 256; x++ {
				other := bytes.Clone(b)
				other[i] ^= byte(x)
				wantNoGet(t, other, api.ErrCheck)
				wantNoGet(t, append(other, b...), api.ErrCheck)
				wantNoGet(t, other[:len(b)-1], api.ErrTruncated)
			}
		}
		highFirst := bytes.Clone(b)
		slices.Reverse(highFirst[end:])
		wantNoGet(t, highFirst, api.ErrCheck)
	}
}

// P23.2: records that are other ones, with the sum of those that were there.
func TestGetOfOtherRecords(t *testing.T) {
	b := laid(t, list(19, 3, 20, 0, 21, 5))
	for at := 2; at < 8; at++ {
		for x := 5; x < 128; x++ {
			other := bytes.Clone(b)
			if other[at] == byte(x) {
				continue
			}
			other[at] = byte(x)
			wantNoGet(t, other, api.ErrCheck)
		}
	}
}

// P23.2: what stands behind an index is not looked at.
func TestGetLooksAtNothingBehind(t *testing.T) {
	for _, l := range rightLists() {
		b := laid(t, l)
		for _, behind := range [][]byte{nil, {0}, {1}, {0x80, 0x00}, {0, 0, 0, 0}, bytes.Repeat([]byte{0xFF}, 40), b, noise(9, 100)} {
			wantGet(t, slices.Concat(b, behind), l, len(b))
		}
	}
}

// likely: a byte that an index has more often than chance.
func likely(r *rand.Rand) byte {
	return []byte{0, 0, 0, 1, 2, 4, 5, 8, 19, 0x7F, 0x80, 0xFC, 0xFF, byte(r.Intn(256))}[r.Intn(14)]
}

// P23.2: by chance, with the right sum behind or without.
func TestGetByTheWords(t *testing.T) {
	r := rand.New(rand.NewSource(232))
	met := map[api.Errno]int{}
	for range 200000 {
		b := []byte{0}
		for range 1 + r.Intn(10) {
			b = append(b, likely(r))
		}
		switch r.Intn(4) {
		case 0:
			b = sealed(b...)
		case 1:
			b = filled(b...)
		case 2:
			b = filled(b...)
			b[len(b)-1-r.Intn(4)]++
		}
		met[wantGetByWords(t, b)]++
	}
	if len(met) != 4 || min(met[api.OK], met[api.ErrTruncated], met[api.ErrFormat], met[api.ErrCheck]) < 1000 {
		t.Errorf("what was met: %v", met)
	}
}
