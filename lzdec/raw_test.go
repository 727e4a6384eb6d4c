package lzdec_test

import (
	"bytes"
	"math/rand"
	"testing"

	"pith/api"
	"pith/symbol"
)

// P15.3: raw bytes come into the dictionary, and move the place; what was learnt stays. None, few, as many as the dictionary has room for, and more.
func TestRaw(t *testing.T) {
	for _, many := range []int{0, 1, 2, 3, 4, 15, 16, 17, 299, 300, 301, 1000, 9000} {
		for _, begin := range situations {
			a := begin(t)
			a.raw(count(many)...)
			if a.w.held() > 0 {
				a.take(t, match(3, a.w.held()), lit(1), short(), lit(2), rep(4, 3))
			}
			a.same(t)
		}
	}
}

// P15.3: no bytes change nothing, nil or empty.
func TestRawOfNothing(t *testing.T) {
	for _, begin := range situations {
		a := begin(t)
		a.d.Raw()
		a.d.Raw(nil...)
		a.d.Raw([]byte{}...)
		a.same(t)
	}
}

// P15.3: what is raw is copied from, and is the byte before and the byte back of literals.
func TestRawIsCopiedFrom(t *testing.T) {
	d := made(t, usual, 4096)
	d.Raw(7, 8, 9)
	wantTaken(t, d, coded("1 0 0 001 000010"), []api.Symbol{match(3, 3)}, []byte{7, 8, 9})

	a := newPair(t, api.Props{}, 4096)
	a.raw(7, 8, 9)
	a.take(t, match(3, 3))
	a.raw(0x55, 0xAA, 0x0F)
	a.take(t, lit(0x55), lit(0x55), short(), lit(0x55))
	a.same(t)
}

// P15.3: the bytes are in no answer: Take answers what its own symbols make.
func TestRawIsNotAnswered(t *testing.T) {
	a := newPair(t, usual, 4096)
	a.take(t, lit('a'))
	a.raw([]byte("xyz")...)
	a.w.put(t, match(4, 4))
	wantTaken(t, a.d, a.w.cut(), []api.Symbol{match(4, 4)}, []byte("axyz"))
}

// P15.3: raw bytes between Takes, of any number, with dictionaries that are filled over and over.
func TestRawBetween(t *testing.T) {
	for _, dict := range []int{1, 2, 17, 300, api.MaxTold} {
		for _, p := range boundProps {
			r := rand.New(rand.NewSource(1551))
			a := newPair(t, p, dict)
			for range 25 {
				a.raw(count(r.Intn(1 << r.Intn(10)))...)
				a.take(t, a.w.chance(r, r.Intn(12))...)
			}
			a.same(t)
		}
	}
}

// P15.3: as if symbols had made them: where the same bytes came by literals, or one by one, the dictionary is the same.
func TestRawAsIfBySymbols(t *testing.T) {
	b := count(250)
	whole, parts, bySymbols := newPair(t, usual, 100), newPair(t, usual, 100), newPair(t, usual, 100)
	whole.raw(b...)
	for _, c := range b {
		parts.raw(c)
	}
	bySymbols.take(t, symbol.Literals(b)...)
	bySymbols.reset(t, usual)
	l := []api.Symbol{match(4, 100), lit(3), match(273, 50), short(), rep(7, 1)}
	whole.w.put(t, l...)
	packed, data := whole.w.cut(), whole.w.came[250:]
	for _, a := range []*pair{whole, parts, bySymbols} {
		wantTaken(t, a.d, packed, l, data)
	}
	whole.same(t)
}

// P15.3, P15.7: the bytes that are handed in stay as they were, and the room around them; what the caller does to them later is not seen.
func TestRawBytesStay(t *testing.T) {
	for _, dict := range []int{1, 5, 4096} {
		for _, n := range []int{0, 1, 5, 40, 300} {
			room := count(400)
			a := newPair(t, usual, dict)
			a.raw(9, 9)
			a.d.Raw(room[50 : 50+n]...)
			a.w.came = append(a.w.came, room[50:50+n]...)
			if !bytes.Equal(room, count(400)) {
				t.Fatal("the bytes have changed, or the room around them")
			}
			for i := range room {
				room[i] = 0xEE
			}
			a.take(t, match(5, a.w.held()), lit(4), short())
			a.same(t)
			for _, b := range room {
				if b != 0xEE {
					t.Fatal("the bytes have changed behind the call")
				}
			}
		}
	}
}
