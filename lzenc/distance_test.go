package lzenc_test

import (
	"fmt"
	"testing"

	"pith/api"
	"pith/state"
)

// P14.2, P14.3: distances of each way to tell the rest, counted by hand: none, a tree of their slot, direct bits and the tree Align. (o and i: bits without a probability.)
func TestDistances(t *testing.T) {
	const came = 300000
	for _, c := range []struct {
		dist int
		bits string
	}{
		{1, "000000"}, {2, "000001"}, {3, "000010"}, {4, "000011"},
		{5, "000100 0"}, {6, "000100 1"}, {7, "000101 0"}, {8, "000101 1"},
		{9, "000110 00"}, {10, "000110 10"}, {11, "000110 01"}, {12, "000110 11"},
		{97, "001101 00000"}, {98, "001101 10000"}, {113, "001101 00001"}, {128, "001101 11111"},
		{129, "001110 oo 0000"}, {130, "001110 oo 1000"}, {137, "001110 oo 0001"}, {145, "001110 oi 0000"}, {161, "001110 io 0000"}, {192, "001110 ii 1111"},
		{193, "001111 oo 0000"}, {210, "001111 oi 1000"}, {256, "001111 ii 1111"},
		{1025, "010100 ooooo 0000"}, {1536, "010100 iiiii 1111"}, {1537, "010101 ooooo 0000"},
		{came - 1, "100100 oiooiooiiiioi 0111"}, {came, "100100 oiooiooiiiioi 1111"},
	} {
		for _, n := range []struct {
			long int
			bits string
		}{{2, "0 000"}, {3, "0 001"}, {4, "0 010"}, {5, "0 011"}, {273, "1 1 11111111"}} {
			e := made(t, usual, came)
			e.Raw(make([]byte, came)...)
			wantSpelt(t, e, match(n.long, c.dist), "1 0"+n.bits+c.bits)
		}
	}
}

// P14.2, P14.3: great distances: the least and the greatest of the slots that a dictionary of 64 MiB and some bytes has, and its very last byte.
func TestGreatDistances(t *testing.T) {
	const came = 1<<26 + 20
	e := made(t, usual, api.MaxTold)
	e.Raw(make([]byte, came)...)
	for slot := 14; slot <= 52; slot++ {
		low, bits, _ := state.Range(slot)
		for _, dist := range []int{low, low + 1<<bits - 1, low + 1<<(bits-1) + 5} {
			dist = min(dist, came)
			rest := dist - low
			direct := ""
			for i := bits - 1; i >= 4; i-- {
				direct += string("oi"[rest>>i&1])
			}
			back := ""
			for i := range 4 {
				back += string("01"[rest>>i&1])
			}
			if errno := e.Reset(usual); errno != api.OK {
				t.Fatalf("error %d", errno)
			}
			wantSpelt(t, e, match(2, dist), fmt.Sprintf("1 0 0 000 %06b", slot)+direct+back)
		}
	}
	wantRefused(t, e, match(2, api.MaxTold), api.ErrRange)
	wantPut(t, e, lit(1), match(5, came+1), rep(4, 0), lit(2), short())
}

// P14.2, P14.3: which tree of slots: of the lengths 2, 3 and 4 one each, of all others the fourth. What moved the one is seen in the cost of two slots that part at their last bit.
func TestTreesOfSlots(t *testing.T) {
	for _, one := range lengths {
		for _, other := range lengths {
			e := made(t, api.Props{}, 4096)
			e.Raw(make([]byte, 50)...)
			for range 5 {
				wantPut(t, e, match(one, 1))
			}
			a, _ := e.Cost(match(other, 1))
			b, _ := e.Cost(match(other, 2))
			want := 17 - 16
			if min(one, 5) == min(other, 5) {
				want = behind(5, 0, 1) - behind(5, 0, 0)
			}
			if b-a != want {
				t.Errorf("behind matches of %d bytes, of %d bytes: the second slot costs %d more than the first, want %d", one, other, b-a, want)
			}
		}
	}
}

// P14.2, P14.3: each slot from 4 to 13 has a tree of its own for the rest; the others share Align, and its bits alone.
func TestTreesOfRests(t *testing.T) {
	for one := 4; one <= 20; one++ {
		for other := 4; other <= 20; other++ {
			low, _, _ := state.Range(one)
			least, bits, _ := state.Range(other)
			e := made(t, api.Props{}, 4096)
			e.Raw(make([]byte, 2000)...)
			for range 5 {
				wantPut(t, e, match(2, low))
			}
			// Back, the lowest bit is the first: the two part at once, and those behind a 1 there have not moved.
			a, _ := e.Cost(match(2, least))
			b, _ := e.Cost(match(2, least+1))
			want := half("1") - half("0")
			tree := bits
			if other >= 14 {
				tree = 4
			}
			if one == other || one >= 14 && other >= 14 {
				want = behind(5, 0, 1) - behind(5, 0, 0)
				want += (tree - 1) * (half("0") - behind(5, 0, 0))
			}
			if b-a != want {
				t.Errorf("behind the slot %d, in the slot %d: %d more, want %d", one, other, b-a, want)
			}
		}
	}
}

// P14.2, P14.3: every distance up to 600, with the lengths of each tree of slots, behind one another.
func TestEveryDistance(t *testing.T) {
	for _, p := range []api.Props{{}, usual, {LC: 2, LP: 2, PB: 4}} {
		a := newPair(t, p, 600)
		a.raw(count(600)...)
		for d := 1; d <= 601; d++ {
			a.put(t, match(2+d%5, d), match(2+(d+2)%5, 601-d))
		}
		a.same(t)
		a.cut(t)
	}
}

// P14.2: each rep and the short rep, behind matches from four distances that differ: by the bytes that they copy, which later literals and copies are told by.
func TestRepsOfFourDistances(t *testing.T) {
	a := newPair(t, usual, 300)
	a.raw(count(250)...)
	a.put(t, match(2, 11), match(3, 22), match(4, 33), match(5, 44))
	for _, l := range [][]api.Symbol{{rep(2, 0)}, {rep(2, 1)}, {rep(2, 2)}, {rep(2, 3)}, {short()}, {rep(9, 3), rep(9, 3), short()}, {rep(2, 2), rep(2, 1), rep(2, 0), rep(273, 3)}, {short(), short(), rep(5, 1), lit(3), short()}} {
		f := a.fork()
		f.put(t, l...)
		f.put(t, lit(77), rep(2, 0), rep(3, 1), rep(4, 2), rep(5, 3), lit(7), short(), lit(8))
		f.same(t)
		f.cut(t)
	}
}
