package rcenc_test

import (
	"math/rand"
	"slices"
	"testing"

	"pith/api"
	"pith/rcenc"
)

// wantRowOfBits: what a row of bits by one probability, Half at first, comes to.
func wantRowOfBits(t *testing.T, bits []int, want ...byte) {
	t.Helper()
	e, s, u := begun(t), made(t, 1), newSum(1024)
	for _, bit := range bits {
		code(t, e, s, 0, bit)
		u.bit(0, bit)
	}
	wantBytes(t, e, want...)
	wantBytes(t, e, u.bytes()...)
	wantRow(t, s, u.row)
}

// P7.1: the chapter's examples.
func TestBitOfTheExamples(t *testing.T) {
	wantRowOfBits(t, nil, 0, 0, 0, 0, 0)
	wantRowOfBits(t, []int{0}, 0, 0, 0, 0, 0)
	wantRowOfBits(t, []int{1}, 0, 0x7F, 0xFF, 0xFC, 0)
	wantRowOfBits(t, []int{1, 1, 1, 1, 1, 1, 1, 1}, 0, 0xFD, 0xD8, 0xC4, 0x68)
	wantRowOfBits(t, []int{1, 0, 1, 1, 0, 0, 1, 0, 1, 1, 1, 1}, 0, 0xB0, 0xB0, 0x52, 0x34, 0x22)
}

// P7.1: behind one 0 by Half the range is 7FFFFC00: a bit without a probability tells it.
func TestRangeBehindAZero(t *testing.T) {
	e, s := begun(t), made(t, 1)
	code(t, e, s, 0, 0)
	direct(t, e, 1, 1)
	wantBytes(t, e, 0, 0x3F, 0xFF, 0xFE, 0)
}

// P7.1: one bit by a probability at Half, at 31 and at 2017, the likely one and the other.
func TestBitByProbabilitiesAtTheirEnds(t *testing.T) {
	for _, c := range []struct {
		end  int
		bit  int
		want []byte
	}{
		{0, 0, []byte{0, 0, 0, 0, 0}},
		{0, 1, []byte{0, 0x7F, 0xFF, 0xFC, 0}},
		{1, 0, []byte{0, 0, 0, 0, 0}},
		{1, 1, []byte{0, 0x03, 0xDF, 0xFF, 0xE1}},
		{2, 0, []byte{0, 0, 0, 0, 0}},
		{2, 1, []byte{0, 0xFC, 0x1F, 0xF8, 0x1F}},
	} {
		end := ends[c.end]
		e, s := begun(t), driven(t, 1, end.bit, end.times)
		wantRow(t, s, []int{end.p})
		code(t, e, s, 0, c.bit)
		wantBytes(t, e, c.want...)
	}
}

// P7.1: rows of bits, also long ones of one bit, by probabilities that begin at Half, at 31 and at 2017.
func TestRowsOfBits(t *testing.T) {
	r := rand.New(rand.NewSource(711))
	for _, end := range ends {
		for _, zeros := range []int{0, 1, 10, 50, 90, 99, 100} {
			e, s, u := begun(t), driven(t, 3, end.bit, end.times), newSum(alike(3, end.p)...)
			for k := range 1500 {
				i, bit := r.Intn(3), 0
				if r.Intn(100) >= zeros {
					bit = ones[r.Intn(len(ones))]
				}
				code(t, e, s, i, bit)
				u.bit(i, bit)
				if k < 40 || k%50 == 0 {
					wantBytes(t, e, u.bytes()...)
					wantRow(t, s, u.row)
				}
			}
			wantBytes(t, e, u.bytes()...)
			wantRow(t, s, u.row)
		}
	}
}

// P7.1: every probability that one comes to from Half, with either bit, ahead of a row that tells the range.
func TestBitByEveryProbability(t *testing.T) {
	s, u := made(t, 1), newSum(1024)
	e := begun(t)
	seen := map[int]bool{}
	r := rand.New(rand.NewSource(712))
	for k := range 6000 {
		bit := 0
		if r.Intn(200) < k/40%200 {
			bit = 1
		}
		p, _ := s.At(0)
		if !seen[p] {
			seen[p] = true
			for _, next := range []int{0, 1} {
				f, g, v := rcenc.New(), s.Fork(), newSum(p)
				code(t, f, g, 0, next)
				v.bit(0, next)
				direct(t, f, 0xFFFF, 16)
				v.direct(0xFFFF, 16)
				wantBytes(t, f, v.bytes()...)
			}
		}
		code(t, e, s, 0, bit)
		u.bit(0, bit)
	}
	wantBytes(t, e, u.bytes()...)
	if len(seen) < 300 {
		t.Errorf("only %d probabilities were met", len(seen))
	}
}

// P7.1: a bit that is not 0 counts as 1, for the bytes and for the probability.
func TestBitsOtherThanZeroAndOne(t *testing.T) {
	for _, bit := range ones {
		e, s := begun(t), made(t, 1)
		code(t, e, s, 0, bit)
		wantBytes(t, e, 0, 0x7F, 0xFF, 0xFC, 0)
		wantRow(t, s, []int{992})
	}
	wantRowOfBits(t, []int{-7, 0, greatest, 2, 0, 0, least, 0, 256, 1 << 32, -1, 3}, 0, 0xB0, 0xB0, 0x52, 0x34, 0x22)
}

// P7.1: the first and the last number of a set, and those between: just that one codes, and just that one moves.
func TestBitMovesOneAlone(t *testing.T) {
	for _, n := range []int{1, 2, 3, 50} {
		for i := range n {
			for _, bit := range []int{0, 1, -7} {
				s, u := made(t, n), newSum(halves(n)...)
				for k := range n {
					for range k % 7 {
						s.Turn(k, k%2)
						u.bit(k, k%2)
					}
				}
				v := newSum(u.row...)
				e := begun(t)
				code(t, e, s, i, bit)
				v.bit(i, bit)
				wantBytes(t, e, v.bytes()...)
				wantRow(t, s, v.row)
			}
		}
	}
}

// P7.1, W5: a number that the set has not is ErrRange; neither the encoder nor the set has changed.
func TestBitOfNoNumber(t *testing.T) {
	for _, n := range []int{0, 1, 2, 5} {
		e, s, u := begun(t), made(t, n), newSum(halves(n)...)
		for i := range n {
			code(t, e, s, i, i%2)
			u.bit(i, i%2)
		}
		for _, i := range slices.Concat([]int{n, n + 1, 2*n + 1, -n - 1}, outside) {
			for _, bit := range []int{0, 1, 7, -1} {
				if errno := e.Bit(s, i, bit); errno != api.ErrRange {
					t.Errorf("Bit of number %d of %d: error %d", i, n, errno)
				}
			}
			wantBytes(t, e, u.bytes()...)
			wantRow(t, s, u.row)
		}
		direct(t, e, 0x1234567, 32)
		u.direct(0x1234567, 32)
		wantBytes(t, e, u.bytes()...)
	}
}

// P7.1: several sets in turn by one encoder, and one set in turn by several encoders.
func TestSetsAndEncodersInTurn(t *testing.T) {
	r := rand.New(rand.NewSource(713))
	e, u := begun(t), newSum(halves(7)...)
	s, q := made(t, 3), made(t, 4)
	for range 1000 {
		i, bit := r.Intn(7), chanceBit(r)
		if i < 3 {
			code(t, e, s, i, bit)
		} else {
			code(t, e, q, i-3, bit)
		}
		u.bit(i, bit)
	}
	wantBytes(t, e, u.bytes()...)
	wantRow(t, s, u.row[:3])
	wantRow(t, q, u.row[3:])

	one, first, second := made(t, 1), begun(t), begun(t)
	row := halves(1)
	a, b := newSum(), newSum()
	a.row, b.row = row, row
	for k := range 1000 {
		bit := chanceBit(r)
		if k%3 == 0 {
			code(t, first, one, 0, bit)
			a.bit(0, bit)
		} else {
			code(t, second, one, 0, bit)
			b.bit(0, bit)
		}
	}
	wantBytes(t, first, a.bytes()...)
	wantBytes(t, second, b.bytes()...)
	wantRow(t, one, row)
}
