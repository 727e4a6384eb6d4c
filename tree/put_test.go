package tree_test

import (
	"bytes"
	"math/rand"
	"testing"

	"pith/rcenc"
)

// P9.2: the chapter's examples.
func TestPutOfTheExamples(t *testing.T) {
	s := made(t, 8)
	put(t, orders[0], rcenc.New(), s, 0, 3, 5)
	wantRow(t, s, map[int]int{1: 992, 3: 1056, 6: 992})
	s = made(t, 8)
	put(t, orders[1], rcenc.New(), s, 0, 3, 6)
	wantRow(t, s, map[int]int{1: 1056, 2: 992, 5: 992})
}

// P9.2: a bit is a way of its own: number at + 1, and the encoder's Bit of it.
func TestPutOfOneBit(t *testing.T) {
	for _, o := range orders {
		for v := range 2 {
			for at := range 4 {
				e, want, s, row := rcenc.New(), rcenc.New(), made(t, 5), made(t, 5)
				put(t, o, e, s, at, 1, v)
				want.Bit(row, at+1, v)
				wantSame(t, e, want)
				wantAlike(t, s, row)
			}
		}
	}
}

// P9.2: with n 0 nothing is coded, and nothing moves, wherever the tree is.
func TestPutOfNoBits(t *testing.T) {
	for _, o := range orders {
		e, s := rcenc.New(), made(t, 30)
		put(t, o, e, s, 0, 4, 11)
		was, row := e.Fork(), s.Fork()
		for at := range 30 {
			put(t, o, e, s, at, 0, 0)
		}
		wantSame(t, e, was)
		wantAlike(t, s, row)
	}
}

// P9.2, P9.8: trees of every depth, at the front of a row, within it and at its end: the bits are coded along their way, and no place but those moves.
func TestPutGoesAlongTheWay(t *testing.T) {
	r := rand.New(rand.NewSource(921))
	for _, o := range orders {
		for n := range 17 {
			for _, more := range []int{0, 1, 5} {
				s := chanceRow(t, r, 1<<n+more)
				for at := 0; at <= more; at += max(1, more) {
					e := rcenc.New()
					e.Direct(r.Uint32(), r.Intn(33))
					for _, v := range values(r, n) {
						want, row := e.Fork(), s.Fork()
						put(t, o, e, s, at, n, v)
						for _, c := range o.way(at, n, v) {
							want.Bit(row, c.place, c.bit)
						}
						wantSame(t, e, want)
						if n <= 8 || v%5 == 0 {
							wantAlike(t, s, row)
						}
					}
				}
			}
		}
	}
}

// P9.2: rows whose probabilities are at their ends, both the likely numbers and the others.
func TestPutAtTheEnds(t *testing.T) {
	r := rand.New(rand.NewSource(922))
	for _, o := range orders {
		for bit := range 2 {
			s, e := driven(t, 40, bit), rcenc.New()
			row, want := s.Fork(), rcenc.New()
			for k := range 300 {
				at, v := r.Intn(9), []int{0, 31, r.Intn(32)}[k%3]
				put(t, o, e, s, at, 5, v)
				for _, c := range o.way(at, 5, v) {
					want.Bit(row, c.place, c.bit)
				}
			}
			wantSame(t, e, want)
			wantAlike(t, s, row)
		}
	}
}

// P9.8: of the places at to at + 2^n - 1 just n move by a number, at itself never.
func TestPutMovesItsWayAlone(t *testing.T) {
	for _, o := range orders {
		for n := range 9 {
			for v := range 1 << n {
				s := made(t, 1<<n+6)
				put(t, o, rcenc.New(), s, 3, n, v)
				moved := map[int]int{}
				for _, c := range o.way(3, n, v) {
					moved[c.place] = []int{1056, 992}[c.bit]
				}
				if len(moved) != n {
					t.Fatalf("the way of %d has %d places, want %d", v, len(moved), n)
				}
				wantRow(t, s, moved)
			}
		}
	}
}

// wantBytes: those of the encoder.
func wantBytes(t *testing.T, e *rcenc.Encoder, want ...byte) {
	t.Helper()
	if got := e.Bytes(); !bytes.Equal(got, want) {
		t.Errorf("bytes % X, want % X", got, want)
	}
}

// P9.2: bytes that were reckoned apart from this program.
func TestPutBytes(t *testing.T) {
	e, s := rcenc.New(), made(t, 256)
	b, back := rcenc.New(), made(t, 256)
	for _, c := range []byte("pith") {
		put(t, orders[0], e, s, 0, 8, int(c))
		put(t, orders[1], b, back, 0, 8, int(c))
	}
	wantBytes(t, e, 0x00, 0x70, 0x6A, 0xF5, 0x91, 0x06, 0xBF, 0x3C)
	wantBytes(t, b, 0x00, 0x0E, 0x99, 0x7A, 0x90, 0x4A, 0x03, 0x60)

	e, b = rcenc.New(), rcenc.New()
	put(t, orders[0], e, made(t, 65536), 0, 16, 0xBEEF)
	put(t, orders[1], b, made(t, 65536), 0, 16, 0xBEEF)
	wantBytes(t, e, 0x00, 0xBE, 0xEE, 0xFC, 0x00, 0x00)
	wantBytes(t, b, 0x00, 0xF7, 0x7C, 0xFC, 0x00, 0x00)

	e, s = rcenc.New(), made(t, 300)
	for k := range 4 {
		put(t, orders[0], e, s, 0, 8, []int{200, 3, 200, 77}[k])
		put(t, orders[1], e, s, 100, 5, []int{1, 30, 1, 17}[k])
		e.Direct(uint32(5*k), 4)
	}
	wantBytes(t, e, 0x00, 0xC8, 0x7F, 0xFD, 0xAD, 0xAA, 0x0C, 0xAC, 0x5E, 0x09, 0xDF, 0x99, 0x00)
}
