package lzenc_test

import (
	"math/rand"
	"strconv"
	"testing"

	"pith/api"
)

// bitsOf: the eight bits of a byte, the highest first.
func bitsOf(b byte) string {
	return strconv.FormatInt(int64(b)+256, 2)[1:]
}

// P14.2, P14.3: each byte behind a state below 7, along the way from 0 on.
func TestEachByte(t *testing.T) {
	for b := range 256 {
		wantSpelt(t, made(t, usual, 4096), lit(byte(b)), "0"+bitsOf(byte(b)))
	}
	// No two bytes share more than their first bits: what one has moved is seen in the other just so far.
	for b := range 256 {
		for other := range 256 {
			e := made(t, api.Props{}, 1)
			wantPut(t, e, lit(byte(b)))
			want, same := behind(1, 0, 0), true
			for i := 7; i >= 0; i-- {
				bit, had := other>>i&1, b>>i&1
				if same {
					want += behind(1, had, bit)
				} else {
					want += behind(0, 0, bit)
				}
				same = same && bit == had
			}
			wantCost(t, e, lit(byte(other)), want)
		}
	}
}

// P14.2, P14.3: behind a copy a literal is held against the byte that stands the first distance back: one that is the same, and ones that differ in the first, a middle and the last bit, counted by hand.
func TestAgainstTheByteBack(t *testing.T) {
	for _, first := range []api.Symbol{match(2, 1), rep(2, 0), short()} {
		e := made(t, api.Props{}, 4096)
		e.Raw(0x61, 0x61, 0x61)
		wantPut(t, e, first)
		wantSpelt(t, e, lit(0x61), "0 01100001")
		// A literal came last: now the numbers from 1 to 255 count, which have not moved.
		wantCost(t, e, lit(0x61), half("0 01100001"))
		// Three more, that the number of the state is the same as at first.
		wantPut(t, e, lit(0xFF), lit(0xFF))
		e.Raw(0x61)
		e.Put(first)
		by := func(bits string) int { return again(1, "0"+bits) }
		wantCost(t, e, lit(0x61), by("01100001"))
		// The first bit differs: the seven others go by the numbers 3 and more, of which those of FF have moved.
		wantCost(t, e, lit(0x80), by("")+behind(1, 0, 1)+behind(2, 1, 0)+half("000000"))
		wantCost(t, e, lit(0x71), by("011")+behind(1, 0, 1)+half("0001"))
		wantCost(t, e, lit(0x60), by("0110000")+behind(1, 1, 0))
		wantCost(t, e, lit(0x21), by("0")+behind(1, 1, 0)+half("100001"))
	}
}

// P14.2, P14.3: any byte against any: the numbers are those of the bits of the byte back, as long as the bits are the same.
func TestAgainstAnyByte(t *testing.T) {
	for _, back := range []int{0, 255, 0x61, 0x80, 1, 0x55, 0xAA} {
		for b := range 256 {
			a := newPair(t, api.Props{}, 16)
			a.raw(byte(back), byte(back))
			a.put(t, short(), lit(byte(b)))
			a.raw(byte(back), 3, byte(back))
			a.put(t, match(2, 3), lit(byte(b)), lit(byte(b)))
			a.cut(t)
			for _, bit := range []byte{0x80, 0x40, 0x10, 8, 1} {
				a.raw(byte(back) ^ bit)
				a.put(t, short(), lit(byte(b)))
			}
			a.cut(t)
		}
	}
}

// P14.2: the byte back is that of the first distance, not the last byte, and not that of another distance.
func TestTheFirstDistanceCounts(t *testing.T) {
	a := newPair(t, usual, 100)
	a.raw(count(90)...)
	a.put(t, match(3, 40), lit(1), match(3, 20), lit(1), match(3, 7), lit(1), match(3, 55))
	for i := range 4 {
		for b := range 256 {
			f := a.fork()
			f.put(t, rep(2, i), lit(byte(b)), short(), lit(byte(b)), lit(byte(b+1)))
			f.cut(t)
		}
	}
}

// edges: bytes at the edges of their first bits.
var edges = []byte{0, 1, 0x0F, 0x10, 0x1F, 0x20, 0x3F, 0x40, 0x7F, 0x80, 0xC0, 0xEF, 0xF0, 0xFF}

// P14.2, P14.3: the byte before, with each lc: two share a row just if their lc first bits are the same. The row is seen by the cost of a 0 that has come there once.
func TestTheByteBefore(t *testing.T) {
	for lc := range 5 {
		for _, one := range edges {
			for other := range 256 {
				e := made(t, api.Props{LC: lc}, 4096)
				e.Raw(one)
				wantPut(t, e, lit(0))
				e.Raw(byte(other))
				want := again(1, "0") + half("00000000")
				if int(one)>>(8-lc) == other>>(8-lc) {
					want = again(1, "0 00000000")
				}
				wantCost(t, e, lit(0), want)
			}
		}
	}
}

// P14.2, P14.3: the place, with each lp: two places share a row just if they are the same modulo 2^lp.
func TestThePlaceOfALiteral(t *testing.T) {
	for lp := range 5 {
		for one := range 18 {
			for other := one + 1; other < 40; other++ {
				e := made(t, api.Props{LP: lp}, 3)
				e.Raw(make([]byte, one)...)
				wantPut(t, e, lit(0))
				e.Raw(make([]byte, other-one-1)...)
				want := again(1, "0") + half("00000000")
				if one%(1<<lp) == other%(1<<lp) {
					want = again(1, "0 00000000")
				}
				wantCost(t, e, lit(0), want)
			}
		}
	}
}

// P14.2, P14.3: byte and place together, with all lc and lp: a row is shared just if both agree.
func TestByteAndPlace(t *testing.T) {
	r := rand.New(rand.NewSource(1421))
	for _, p := range allProps() {
		if p.PB != 0 {
			continue
		}
		for range 300 {
			e := made(t, p, 4096)
			one, first, more, second := r.Intn(20), byte(r.Intn(256)), r.Intn(20), byte(r.Intn(256))
			if r.Intn(2) == 0 {
				second = first ^ 1<<r.Intn(8)
			}
			e.Raw(make([]byte, one)...)
			e.Raw(first)
			wantPut(t, e, lit(0))
			e.Raw(make([]byte, more)...)
			e.Raw(second)
			want := again(1, "0") + half("00000000")
			if (more+2)%(1<<p.LP) == 0 && first>>(8-p.LC) == second>>(8-p.LC) {
				want = again(1, "0 00000000")
			}
			wantCost(t, e, lit(0), want)
		}
	}
}

// P14.2, P14.3: the place, with each pb: two places share the probabilities of a place state just if they are the same modulo 2^pb.
func TestThePlaceState(t *testing.T) {
	for pb := range 5 {
		for one := 1; one < 19; one++ {
			for other := one + 1; other < 40; other++ {
				e := made(t, api.Props{PB: pb}, 3)
				e.Raw(make([]byte, one)...)
				wantPut(t, e, lit(0))
				e.Raw(make([]byte, other-one-1)...)
				want := half("0") + again(1, "00000000")
				if one%(1<<pb) == other%(1<<pb) {
					want = again(1, "0 00000000")
				}
				wantCost(t, e, lit(0), want)
			}
		}
	}
}

// P14.2, P14.3: the same of a short rep and of lengths, by Low and by Mid; High is one for all places.
func TestThePlaceStateOfCopies(t *testing.T) {
	for pb := range 5 {
		for _, c := range []struct {
			y                   api.Symbol
			state, place, never string // bits by the state's number, by the place too, by neither
		}{
			{short(), "1 0", "1 0", ""},
			{rep(2, 0), "1 0", "1 1 000", "0"},
			{rep(10, 0), "1 0", "1 1 000", "1 0"},
			{rep(18, 0), "1 0", "1 1", "1 1 00000000"},
			{rep(9, 3), "1 1 1 1", "1 111", "0"},
			{match(2, 1), "0", "1 000", "0 000000"},
			{match(17, 1), "0", "1 111", "1 0 000000"},
			{match(273, 1), "0", "1", "1 1 11111111 000000"},
		} {
			for more := range 35 {
				e := made(t, api.Props{PB: pb}, 300)
				e.Raw(0)
				// Three literals lead back to the number 0 of the state, by the probabilities of other numbers.
				wantPut(t, e, c.y, lit(0), lit(0), lit(0))
				e.Raw(make([]byte, more)...)
				place := half(c.place)
				if (max(1, c.y.Len)+3+more)%(1<<pb) == 0 {
					place = again(1, c.place)
				}
				wantCost(t, e, c.y, again(1, c.state)+place+again(1, c.never))
			}
		}
	}
}

// P14.2, P14.3: in an empty dictionary the byte before is 0, at the beginning and behind Clear.
func TestTheByteBeforeAll(t *testing.T) {
	for lc := 1; lc < 5; lc++ {
		e := made(t, api.Props{LC: lc}, 4096)
		for range 2 {
			wantPut(t, e, lit(0))
			for b := range 256 {
				e.Raw(byte(b))
				want := again(1, "0") + half("00000000")
				if b>>(8-lc) == 0 {
					want = again(1, "0 00000000")
				}
				wantCost(t, e, lit(0), want)
			}
			e.Clear()
		}
	}
}
