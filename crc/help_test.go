package crc_test

import (
	"bytes"
	"math/rand"
	"testing"

	"pith/api"
	"pith/crc"
)

// maxJoin: the most bytes that Join and Patch go over.
const maxJoin = 1 << 40

// The greatest and the least int.
const (
	greatest = 1<<63 - 1
	least    = -1 << 63
)

// wide: one of the two sums, its numbers as ones of 64 bits, so that one test goes over both.
type wide struct {
	name  string
	width int
	poly  uint64
	sum   func(b ...[]byte) uint64
	more  func(s uint64, b []byte) uint64
	join  func(a, b uint64, n int) (uint64, api.Errno)
	patch func(sum uint64, n, off int, was, now []byte) (uint64, api.Errno)
}

func sums() []wide {
	return []wide{
		{
			"32", 32, 0xEDB88320,
			func(b ...[]byte) uint64 { return uint64(crc.Sum32(b...)) },
			func(s uint64, b []byte) uint64 { return uint64(crc.More32(uint32(s), b)) },
			func(a, b uint64, n int) (uint64, api.Errno) {
				s, e := crc.Join32(uint32(a), uint32(b), n)
				return uint64(s), e
			},
			func(sum uint64, n, off int, was, now []byte) (uint64, api.Errno) {
				s, e := crc.Patch32(uint32(sum), n, off, was, now)
				return uint64(s), e
			},
		},
		{"64", 64, 0xC96C5795D7870F42, crc.Sum64, crc.More64, crc.Join64, crc.Patch64},
	}
}

// ones: all bits of the width.
func (w wide) ones() uint64 { return 1<<w.width - 1 }

// put: by the words of the chapter, bit by bit.
func (w wide) put(s uint64, b ...byte) uint64 {
	for _, x := range b {
		s ^= uint64(x)
		for range 8 {
			if s&1 == 1 {
				s = s>>1 ^ w.poly
			} else {
				s >>= 1
			}
		}
	}
	return s
}

// carried: s, carried on over b, by the words of the chapter.
func (w wide) carried(s uint64, b []byte) uint64 {
	return w.put(s^w.ones(), b...) ^ w.ones()
}

// times: the product of two numbers as polynomials (their highest bit the place of 1) modulo the sum's own.
func (w wide) times(a, b uint64) uint64 {
	r := uint64(0)
	for i := w.width - 1; i >= 0; i-- {
		if b>>i&1 == 1 {
			r ^= a
		}
		if a&1 == 1 {
			a = a>>1 ^ w.poly
		} else {
			a >>= 1
		}
	}
	return r
}

// zeros: what n bytes 0 make of s, as a product with the 8n-th power of x, by another way than the program's.
func (w wide) zeros(s uint64, n int) uint64 {
	power := uint64(1) << (w.width - 9)
	for ; n > 0; n /= 2 {
		if n%2 == 1 {
			s = w.times(s, power)
		}
		power = w.times(power, power)
	}
	return s
}

// chance: a number of the width, often one at the edges.
func (w wide) chance(r *rand.Rand) uint64 {
	switch r.Intn(6) {
	case 0:
		return []uint64{0, 1, 2, w.ones(), w.ones() - 1, 1 << (w.width - 1), w.poly}[r.Intn(7)]
	case 1:
		return 1 << r.Intn(w.width)
	}
	return r.Uint64() & w.ones()
}

// chanceBytes: n bytes.
func chanceBytes(r *rand.Rand, n int) []byte {
	b := make([]byte, n)
	r.Read(b)
	return b
}

// texts: nothing, every single byte, equal bytes, and chance ones of many lengths.
func texts() [][]byte {
	all := [][]byte{nil, {}, []byte("123456789"), []byte("pith")}
	for i := range 256 {
		all = append(all, []byte{byte(i)})
	}
	r := rand.New(rand.NewSource(3))
	for n := range 70 {
		all = append(all, make([]byte, n), bytes.Repeat([]byte{255}, n), chanceBytes(r, n))
	}
	return append(all, chanceBytes(r, 1000), chanceBytes(r, 4096), chanceBytes(r, 65537))
}

// joined: x and y, one behind the other, in memory of their own.
func joined(pieces ...[]byte) []byte {
	return bytes.Join(pieces, nil)
}

// ownBytes: the bytes of a number of the width, the lowest first.
func (w wide) ownBytes(s uint64) []byte {
	b := make([]byte, w.width/8)
	for i := range b {
		b[i] = byte(s >> (8 * i))
	}
	return b
}

func (w wide) wantSum(t *testing.T, want uint64, b ...[]byte) {
	t.Helper()
	if s := w.sum(b...); s != want {
		t.Errorf("Sum%s(%.40q): %X, want %X", w.name, b, s, want)
	}
}

func (w wide) wantMore(t *testing.T, s uint64, b []byte, want uint64) {
	t.Helper()
	if m := w.more(s, b); m != want {
		t.Errorf("More%s(%X, %.40q): %X, want %X", w.name, s, b, m, want)
	}
}

func (w wide) wantJoin(t *testing.T, a, b uint64, n int, want uint64) {
	t.Helper()
	if s, e := w.join(a, b, n); s != want || e != api.OK {
		t.Errorf("Join%s(%X, %X, %d): %X, error %d, want %X", w.name, a, b, n, s, e, want)
	}
}

// noJoin: ErrRange, and the sum is 0.
func (w wide) noJoin(t *testing.T, a, b uint64, n int) {
	t.Helper()
	if s, e := w.join(a, b, n); s != 0 || e != api.ErrRange {
		t.Errorf("Join%s(%X, %X, %d): %X, error %d", w.name, a, b, n, s, e)
	}
}

func (w wide) wantPatch(t *testing.T, sum uint64, n, off int, was, now []byte, want uint64) {
	t.Helper()
	if s, e := w.patch(sum, n, off, was, now); s != want || e != api.OK {
		t.Errorf("Patch%s(%X, %d, %d, %.40q, %.40q): %X, error %d, want %X", w.name, sum, n, off, was, now, s, e, want)
	}
}

// noPatch: ErrRange, and the sum is 0.
func (w wide) noPatch(t *testing.T, sum uint64, n, off int, was, now []byte) {
	t.Helper()
	if s, e := w.patch(sum, n, off, was, now); s != 0 || e != api.ErrRange {
		t.Errorf("Patch%s(%X, %d, %d, %.40q, %.40q): %X, error %d", w.name, sum, n, off, was, now, s, e)
	}
}

func wantFlip(t *testing.T, b []byte, at int, mask uint32, want []byte) {
	t.Helper()
	if f, e := crc.Flip(b, at, mask); !bytes.Equal(f, want) || e != api.OK {
		t.Errorf("Flip(% X, %d, %X): % X, error %d, want % X", b, at, mask, f, e, want)
	}
}

// noFlip: ErrRange, and the bytes are nil.
func noFlip(t *testing.T, b []byte, at int, mask uint32) {
	t.Helper()
	if f, e := crc.Flip(b, at, mask); f != nil || e != api.ErrRange {
		t.Errorf("Flip(% X, %d, %X): % X, error %d", b, at, mask, f, e)
	}
}

// turned: b with these bits turned over, one after the other.
func turned(b []byte, bits ...int) []byte {
	c := joined(b)
	for _, i := range bits {
		c[i/8] ^= 1 << (i % 8)
	}
	return c
}

// fill: every byte of b and of the room behind it.
func fill(b []byte, x byte) {
	b = b[:cap(b)]
	for i := range b {
		b[i] = x
	}
}
