package lzenc_test

import (
	"testing"

	"pith/api"
	"pith/prob"
)

// spelt: lengths with their bits by a length coder, counted by hand.
var spelt = []struct {
	n    int
	bits string
}{
	{2, "0 000"}, {3, "0 001"}, {4, "0 010"}, {5, "0 011"}, {6, "0 100"}, {8, "0 110"}, {9, "0 111"},
	{10, "1 0 000"}, {11, "1 0 001"}, {14, "1 0 100"}, {16, "1 0 110"}, {17, "1 0 111"},
	{18, "1 1 00000000"}, {19, "1 1 00000001"}, {100, "1 1 01010010"}, {146, "1 1 10000000"}, {272, "1 1 11111110"}, {273, "1 1 11111111"},
}

// P14.2, P14.3: the lengths of a match and of a rep, at the edges and between, all probabilities Half.
func TestLengths(t *testing.T) {
	for _, p := range boundProps {
		for _, c := range spelt {
			e := made(t, p, 4096)
			e.Raw(count(9)...)
			wantSpelt(t, e, match(c.n, 1), "1 0"+c.bits+"000000")
			e = made(t, p, 4096)
			e.Raw(count(9)...)
			wantSpelt(t, e, rep(c.n, 0), "1 1 0 1"+c.bits)
			e = made(t, p, 4096)
			e.Raw(count(9)...)
			wantSpelt(t, e, rep(c.n, 2), "1 1 1 1 0"+c.bits)
		}
	}
}

// P14.2, P14.3: every length, behind every other, of a match and of a rep.
func TestEveryLength(t *testing.T) {
	matches, reps := newPair(t, usual, 4096), newPair(t, usual, 4096)
	matches.raw(count(9)...)
	reps.raw(count(9)...)
	for n := 2; n <= 273; n++ {
		matches.put(t, match(n, 3))
		reps.put(t, rep(n, n%4))
	}
	for n := 273; n >= 2; n -= 3 {
		matches.put(t, match(n, 3))
		reps.put(t, rep(n, n%4))
	}
	matches.same(t)
	reps.same(t)
	matches.cut(t)
	reps.cut(t)
}

// P14.2, P14.3: the two length coders share nothing: a match does not make a rep of its length cheaper, nor the other way round.
func TestTwoLengthCoders(t *testing.T) {
	for _, c := range spelt {
		e := made(t, api.Props{}, 4096)
		e.Raw(count(9)...)
		wantPut(t, e, match(c.n, 1))
		wantCost(t, e, rep(c.n, 0), half("1 1 0 1"+c.bits))
		wantCost(t, e, match(c.n, 1), half("1 0")+again(1, c.bits+"000000"))
		e = made(t, api.Props{}, 4096)
		e.Raw(count(9)...)
		wantPut(t, e, rep(c.n, 0))
		wantCost(t, e, rep(c.n, 0), half("1 1 0 1")+again(1, c.bits))
		wantCost(t, e, match(c.n, 1), half("1 0"+c.bits+"000000"))
	}
}

// P14.2, P14.3: Low, Mid and High are trees of their own: what one has moved the others have not.
func TestTreesOfALength(t *testing.T) {
	for _, c := range []struct {
		y     func(n int) api.Symbol
		slots int // what the slot costs more with another length than 2
	}{
		{func(n int) api.Symbol { return rep(n, 0) }, 0},
		{func(n int) api.Symbol { return match(n, 1) }, half("000000") - again(3, "000000")},
	} {
		e := made(t, api.Props{}, 4096)
		e.Raw(count(9)...)
		wantPut(t, e, c.y(2), c.y(2), c.y(2))
		two, _ := e.Cost(c.y(2))
		more := func(n, want int) {
			t.Helper()
			wantCost(t, e, c.y(n), two+want+c.slots)
		}
		// Of one tree the numbers part where their bits do.
		more(3, behind(3, 0, 1)-again(3, "0"))
		more(6, behind(3, 0, 1)+half("00")-again(3, "000"))
		// Behind a 1 by Choice nothing has moved.
		more(10, behind(3, 0, 1)+half("0 000")-again(3, "0 000"))
		more(18, behind(3, 0, 1)+half("1 00000000")-again(3, "0 000"))
	}
}

// P14.3: a bit's cost is prob.Cost of its probability: behind many of the same it is least, the other one dearest.
func TestCheapAndDear(t *testing.T) {
	e := made(t, api.Props{}, 4096)
	for range 400 {
		wantPut(t, e, lit(0))
	}
	wantCost(t, e, lit(0), 9*prob.Cost(2017, 0))
	wantCost(t, e, lit(1), 8*prob.Cost(2017, 0)+prob.Cost(2017, 1))
	wantCost(t, e, lit(0x80), prob.Cost(2017, 0)+prob.Cost(2017, 1)+half("0000000"))
	wantCost(t, e, short(), prob.Cost(2017, 1)+half("1 0 0"))
}
