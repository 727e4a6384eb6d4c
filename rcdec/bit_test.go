package rcdec_test

import (
	"math/rand"
	"slices"
	"testing"

	"pith/api"
)

// P8.2: the chapter's examples.
func TestBitOfTheExamples(t *testing.T) {
	d, s := begun(t, 0, 0, 0, 0, 0), made(t, 1)
	wantBit(t, d, s, 0, 0)
	wantRow(t, s, []int{1056})
	wantEnd(t, d, 5, true)

	d, s = begun(t, 0, 0x7F, 0xFF, 0xFC, 0), made(t, 1)
	wantBit(t, d, s, 0, 1)
	wantRow(t, s, []int{992})
	wantEnd(t, d, 5, true)
}

// P8.2: what the encoder's chapter codes in its examples.
func TestBitOfTheEncodersExamples(t *testing.T) {
	d, s := begun(t, 0, 0xFD, 0xD8, 0xC4, 0x68), made(t, 1)
	for range 8 {
		wantBit(t, d, s, 0, 1)
	}
	wantEnd(t, d, 5, true)

	d, s = begun(t, 0, 0xB0, 0xB0, 0x52, 0x34, 0x22), made(t, 1)
	for _, bit := range []int{1, 0, 1, 1, 0, 0, 1, 0, 1, 1, 1, 1} {
		wantBit(t, d, s, 0, bit)
	}
	wantEnd(t, d, 6, true)
}

// P8.2: by probabilities at Half, at 31 and at 2017: a code one below the bound is a 0, the bound a 1; so at the range's ends.
func TestBitAtTheBound(t *testing.T) {
	for _, c := range []struct {
		end  int
		last [4]byte // of the codes of a 0
		next [4]byte
	}{
		{0, [4]byte{0x7F, 0xFF, 0xFB, 0xFF}, [4]byte{0x7F, 0xFF, 0xFC, 0}},
		{1, [4]byte{0x03, 0xDF, 0xFF, 0xE0}, [4]byte{0x03, 0xDF, 0xFF, 0xE1}},
		{2, [4]byte{0xFC, 0x1F, 0xF8, 0x1E}, [4]byte{0xFC, 0x1F, 0xF8, 0x1F}},
	} {
		end := ends[c.end]
		for _, w := range []struct {
			code [4]byte
			bit  int
		}{{[4]byte{}, 0}, {c.last, 0}, {c.next, 1}, {[4]byte{0xFF, 0xFF, 0xFF, 0xFE}, 1}} {
			b := append([]byte{0}, w.code[:]...)
			d, s := begun(t, b...), driven(t, 1, end.bit, end.times)
			wantRow(t, s, []int{end.p})
			wantBit(t, d, s, 0, w.bit)
			wantRow(t, s, []int{moved(end.p, w.bit)})
			wantEnd(t, d, 5, w.code == c.next || w.code == [4]byte{})
		}
	}
}

// P8.2: rows of bits by probabilities that begin at Half, at 31 and at 2017, from any bytes.
func TestRowsOfBits(t *testing.T) {
	r := rand.New(rand.NewSource(821))
	for _, end := range ends {
		for range 100 {
			b := chanceBytes(r, 5+r.Intn(60))
			p := &pair{begun(t, b...), driven(t, 3, end.bit, end.times), newTeller(b), alike(3, end.p)}
			p.same(t)
			for p.bit(t, r.Intn(3)) {
			}
			p.drain(t, r)
		}
	}
}

// P8.2: every probability that one comes to from Half, with codes about the bound.
func TestBitByEveryProbability(t *testing.T) {
	r := rand.New(rand.NewSource(822))
	s, q := made(t, 1), 1024
	seen := map[int]bool{}
	for k := range 6000 {
		if !seen[q] {
			seen[q] = true
			bound := uint64(1<<32-1) / 2048 * uint64(q)
			for _, code := range []uint64{0, 1, bound - 2, bound - 1, bound, bound + 1, 1<<32 - 3, 1<<32 - 2} {
				b := append(newPath().bytes(code), 0x5A, 0xA5)
				p := &pair{begun(t, b...), s.Fork(), newTeller(b), []int{q}}
				p.bit(t, 0)
				p.drain(t, r)
			}
		}
		bit := 0
		if r.Intn(200) < k/40%200 {
			bit = 1
		}
		s.Turn(0, bit)
		q = moved(q, bit)
	}
	if len(seen) < 300 {
		t.Errorf("only %d probabilities were met", len(seen))
	}
}

// P8.2: the first and the last number of a set, and those between: just that one is asked, and just that one moves.
func TestBitMovesOneAlone(t *testing.T) {
	for _, n := range []int{1, 2, 3, 50} {
		for i := range n {
			for _, b := range [][]byte{{0, 0, 0, 0, 0, 0}, {0, 0xFF, 0xFF, 0xFF, 0xFE, 0}, {0, 0x7F, 0xFF, 0xFC, 0, 0}, {0, 0x7F, 0xFF, 0xFB, 0xFF, 0}} {
				p := newPair(t, n, b...)
				for k := range n {
					for range k % 7 {
						p.s.Turn(k, k%2)
						p.row[k] = moved(p.row[k], k%2)
					}
				}
				if !p.bit(t, i) {
					t.Fatal("no bit")
				}
			}
		}
	}
}

// P8.2, P8.4, W5: a number that the set has not is ErrRange; neither the decoder nor the set has changed.
func TestBitOfNoNumber(t *testing.T) {
	r := rand.New(rand.NewSource(823))
	for _, n := range []int{0, 1, 2, 5} {
		for range 10 {
			p := newPair(t, n, chanceBytes(r, 30)...)
			for i := range n {
				p.bit(t, i)
			}
			p.direct(t, 3)
			for _, i := range slices.Concat([]int{n, n + 1, 2*n + 1, -n - 1}, outside) {
				noBit(t, p.d, p.s, i, api.ErrRange)
				p.same(t)
			}
			p.drain(t, r)
		}
	}
}

// P8.2: ErrRange comes ahead of ErrTruncated.
func TestBitOfNoNumberAtTheEnd(t *testing.T) {
	r := rand.New(rand.NewSource(824))
	p := newPair(t, 2, 0, 0, 0, 0, 0)
	for p.bit(t, 0) {
	}
	for _, i := range slices.Concat([]int{2, 3}, outside) {
		noBit(t, p.d, p.s, i, api.ErrRange)
	}
	noBit(t, p.d, made(t, 0), 0, api.ErrRange)
	noBit(t, p.d, p.s, 0, api.ErrTruncated)
	p.drain(t, r)
}

// P8.2, P8.4: the last byte is read by a Bit, and one bit more is ErrTruncated: its probability stands, and so does the other.
func TestBitReadsTheLastByte(t *testing.T) {
	for _, end := range ends {
		for _, tail := range [][]byte{{}, {0}, {1}, {0xFF}, {0, 0, 7}} {
			b := append([]byte{0, 0, 0, 0, 0}, tail...)
			p := &pair{begun(t, b...), driven(t, 2, end.bit, end.times), newTeller(b), alike(2, end.p)}
			for p.u.used < len(b) {
				if !p.bit(t, 0) {
					t.Fatal("a bit is missing")
				}
			}
			for p.bit(t, 0) {
			}
			wantEnd(t, p.d, len(b), p.u.code == 0)
			row := slices.Clone(p.row)
			for range 3 {
				noBit(t, p.d, p.s, 0, api.ErrTruncated)
				wantRow(t, p.s, row)
				wantEnd(t, p.d, len(b), p.u.code == 0)
			}
		}
	}
}

// P8.2: as the bits at the end of five bytes 00 by one probability go: 2^32 falls below 2^24 by the bit that is refused.
func TestBitsOfFiveBytes(t *testing.T) {
	d, s := begun(t, 0, 0, 0, 0, 0), made(t, 1)
	n, span, p := 0, uint64(1<<32-1), 1024
	for {
		span = span / 2048 * uint64(p)
		if span < 1<<24 {
			break
		}
		wantBit(t, d, s, 0, 0)
		p = moved(p, 0)
		n++
	}
	noBit(t, d, s, 0, api.ErrTruncated)
	wantRow(t, s, []int{p})
	if n < 8 {
		t.Errorf("only %d bits", n)
	}
}
