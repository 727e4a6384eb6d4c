package lzenc_test

import (
	"bytes"
	"math/rand"
	"testing"

	"pith/api"
)

// P14.5: raw bytes come into the dictionary, and move the place; state, probabilities and range encoder stay.
func TestRaw(t *testing.T) {
	for _, many := range []int{0, 1, 2, 3, 4, 15, 16, 17, 299, 300, 301, 1000} {
		for _, a := range situations(t) {
			size := a.e.Size()
			a.raw(count(many)...)
			if a.e.Size() != size {
				t.Errorf("the size was %d and is %d", size, a.e.Size())
			}
			a.same(t)
			a.put(t, lit(1), match(3, max(1, a.w.held())), lit(2), short(), rep(4, 3))
			a.cut(t)
		}
	}
}

// P14.5: no bytes change nothing, nil or empty.
func TestRawOfNothing(t *testing.T) {
	for _, a := range situations(t) {
		a.e.Raw()
		a.e.Raw(nil...)
		a.e.Raw([]byte{}...)
		a.same(t)
	}
}

// P14.5: what is raw is copied from, told by distances, and is the byte before and the byte back of literals.
func TestRawIsCopiedFrom(t *testing.T) {
	e := made(t, usual, 4096)
	e.Raw(7, 8, 9)
	wantRefused(t, e, match(2, 4), api.ErrRange)
	wantSpelt(t, e, match(3, 3), "1 0 0 001 000010")
	wantRefused(t, e, match(2, 7), api.ErrRange)
	e.Raw(1, 2)
	wantPut(t, e, match(2, 8))
	// Behind a copy the byte back may be a raw one that came since.
	a := newPair(t, api.Props{}, 4096)
	a.raw(7, 8, 9)
	a.put(t, match(3, 3))
	a.raw(0x55, 0xAA, 0x0F)
	a.put(t, lit(0x55), lit(0x55), short(), lit(0x55))
	a.same(t)
}

// P14.5: raw bytes between symbols, of any number, with dictionaries that are filled over and over.
func TestRawBetween(t *testing.T) {
	for _, dict := range []int{1, 2, 17, 300, api.MaxTold} {
		r := rand.New(rand.NewSource(1451))
		a := newPair(t, usual, dict)
		for range 60 {
			a.raw(count(r.Intn(1 << r.Intn(10)))...)
			chance(t, a, r, r.Intn(12))
		}
		a.same(t)
		a.cut(t)
	}
}

// P14.5: bytes by Raw, at once or one by one, are the same.
func TestRawInPieces(t *testing.T) {
	whole, parts := newPair(t, usual, 100), newPair(t, usual, 100)
	b := count(250)
	whole.raw(b...)
	for _, c := range b {
		parts.raw(c)
	}
	whole.same(t)
	parts.same(t)
	l := []api.Symbol{match(4, 100), lit(3), match(273, 50), short(), rep(7, 1)}
	whole.put(t, l...)
	parts.put(t, l...)
	if x, y := whole.cut(t), parts.cut(t); !bytes.Equal(x, y) {
		t.Errorf("% X and % X", x, y)
	}
}

// P14.10, W3: the bytes that are handed in stay as they were, and the room around them; what the caller does to them later is not seen.
func TestRawBytesStay(t *testing.T) {
	for _, dict := range []int{1, 5, 4096} {
		for _, n := range []int{0, 1, 5, 40, 300} {
			room := count(400)
			a := newPair(t, usual, dict)
			a.raw(9, 9)
			a.e.Raw(room[50 : 50+n]...)
			a.w.came = append(a.w.came, room[50:50+n]...)
			if !bytes.Equal(room, count(400)) {
				t.Fatal("the bytes have changed, or the room around them")
			}
			for i := range room {
				room[i] = 0xEE
			}
			a.same(t)
			a.put(t, lit(4), short(), match(9, 1), lit(6))
			for _, b := range room {
				if b != 0xEE {
					t.Fatal("the bytes have changed behind the call")
				}
			}
			a.cut(t)
		}
	}
}
