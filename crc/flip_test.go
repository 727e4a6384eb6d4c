package crc_test

import (
	"bytes"
	"math/bits"
	"math/rand"
	"testing"

	"pith/api"
	"pith/crc"
)

// P3.4: the chapter's examples.
func TestExamplesOfFlipping(t *testing.T) {
	am := []byte("am")
	wantFlip(t, am, 7, 3, []byte{0xE1, 0x6C})
	noFlip(t, am, 15, 3)
	wantFlip(t, am, 16, 0, am)
	noFlip(t, am, 17, 0)
}

// P3.4: one bit, at each place: the first, the last, and none behind.
func TestFlipOfOneBit(t *testing.T) {
	r := rand.New(rand.NewSource(341))
	for n := range 12 {
		b := chanceBytes(r, n)
		for at := range 8 * n {
			wantFlip(t, b, at, 1, turned(b, at))
			for i := range 32 {
				if at+i < 8*n {
					wantFlip(t, b, at, 1<<i, turned(b, at+i))
				} else {
					noFlip(t, b, at, 1<<i)
				}
			}
		}
		noFlip(t, b, 8*n, 1)
		noFlip(t, b, 8*n, 1<<31)
	}
}

// P3.4: the mask 0 turns nothing, from the front to behind the last bit.
func TestFlipOfNoBit(t *testing.T) {
	for n := range 6 {
		b := bytes.Repeat([]byte{0xA5}, n)
		for at := range 8*n + 1 {
			wantFlip(t, b, at, 0, b)
		}
		noFlip(t, b, 8*n+1, 0)
		noFlip(t, b, -1, 0)
	}
}

// P3.4: all masks' bits that are 1, and these alone.
func TestFlipOfManyBits(t *testing.T) {
	r := rand.New(rand.NewSource(342))
	wantFlip(t, make([]byte, 5), 4, 0xFFFFFFFF, []byte{0xF0, 0xFF, 0xFF, 0xFF, 0x0F})
	wantFlip(t, make([]byte, 4), 0, 0xFFFFFFFF, []byte{0xFF, 0xFF, 0xFF, 0xFF})
	wantFlip(t, make([]byte, 4), 0, 0x80000001, []byte{0x01, 0, 0, 0x80})
	noFlip(t, make([]byte, 4), 1, 0xFFFFFFFF)
	for range 20000 {
		b := chanceBytes(r, r.Intn(12))
		at, mask := r.Intn(8*len(b)+9), r.Uint32()>>r.Intn(33)
		// A mask whose highest 1 falls behind the last bit; its other bits may well be there.
		if at > 8*len(b) || mask != 0 && at+bits.Len32(mask) > 8*len(b) {
			noFlip(t, b, at, mask)
			continue
		}
		places := []int{}
		for i := range 32 {
			if mask>>i&1 == 1 {
				places = append(places, at+i)
			}
		}
		wantFlip(t, b, at, mask, turned(b, places...))
	}
}

// P3.4: what is not there.
func TestFlipOutside(t *testing.T) {
	for _, b := range [][]byte{nil, {}, []byte("am"), make([]byte, 9)} {
		for _, mask := range []uint32{0, 1, 1 << 31, 0xFFFFFFFF} {
			for _, at := range []int{-1, -2, -8, -31, -32, least, least + 1, 8*len(b) + 1, 8*len(b) + 8, 1 << 40, greatest - 32, greatest - 31, greatest - 1, greatest} {
				noFlip(t, b, at, mask)
			}
		}
		noFlip(t, b, 8*len(b), 1)
		noFlip(t, b, 8*len(b), 1<<31)
	}
	wantFlip(t, nil, 0, 0, nil)
	wantFlip(t, []byte{}, 0, 0, nil)
	// What lies in the room behind the bytes is none of them.
	noFlip(t, []byte("room")[:1], 8, 1)
	noFlip(t, []byte("room")[:1], 7, 3)
}

// P3.4: turned twice, the bytes are what they were.
func TestFlipTwice(t *testing.T) {
	r := rand.New(rand.NewSource(343))
	for range 2000 {
		b := chanceBytes(r, 4+r.Intn(12))
		at, mask := r.Intn(8*len(b)-31), r.Uint32()
		once, e := crc.Flip(b, at, mask)
		if e != api.OK {
			t.Fatalf("Flip(% X, %d, %X): error %d", b, at, mask, e)
		}
		wantFlip(t, once, at, mask, b)
	}
}

// P3.4: the answer is the caller's own, its spare room too, with mask 0 as well.
func TestFlipIsNewMemory(t *testing.T) {
	for _, mask := range []uint32{0, 1, 0x8001} {
		all := []byte("amroom")
		b := all[:2]
		first, _ := crc.Flip(b, 0, mask)
		second, _ := crc.Flip(b, 0, mask)
		want := bytes.Clone(second)
		fill(first, 55)
		if string(all) != "amroom" || !bytes.Equal(second, want) || len(want) != 2 {
			t.Errorf("mask %X: behind a change of an answer: %q, % X", mask, all, second)
		}
		fill(all, 66)
		if !bytes.Equal(second, want) {
			t.Errorf("mask %X: behind a change of the argument: % X", mask, second)
		}
	}
}

// P3.4: bytes that differ in bits that lie among w in a row, and there alone, have two sums.
func TestBursts(t *testing.T) {
	r := rand.New(rand.NewSource(344))
	for _, w := range sums() {
		for range 4000 {
			b := chanceBytes(r, 1+r.Intn(40))
			c, at := bytes.Clone(b), r.Intn(8*len(b))
			burst := w.chance(r) | 1
			for i := range min(w.width, 8*len(b)-at) {
				if burst>>i&1 == 1 {
					c = turned(c, at+i)
				}
			}
			if w.sum(b) == w.sum(c) {
				t.Errorf("%s bits: % X and % X have one sum", w.name, b, c)
			}
		}
	}
}

// P3.4: each burst that Flip makes is told by both sums.
func TestBurstsOfFlip(t *testing.T) {
	r := rand.New(rand.NewSource(345))
	b := chanceBytes(r, 20)
	for at := range 8*len(b) - 31 {
		for range 60 {
			mask := r.Uint32()>>r.Intn(32) | 1<<r.Intn(32)
			c, e := crc.Flip(b, at, mask)
			if e != api.OK || crc.Sum32(b) == crc.Sum32(c) || crc.Sum64(b) == crc.Sum64(c) {
				t.Errorf("Flip(% X, %d, %X): % X, error %d: one sum", b, at, mask, c, e)
			}
		}
	}
}
