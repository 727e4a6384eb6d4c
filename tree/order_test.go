package tree_test

import (
	"math/rand"
	"testing"

	"pith/rcenc"
)

// otherWay: the number that has the bits of v the other way round, digit by digit.
func otherWay(n, v int) int {
	digits := make([]int, n)
	for k := range digits {
		digits[k] = v % 2
		v /= 2
	}
	w := 0
	for _, d := range digits {
		w = 2*w + d
	}
	return w
}

// P9.6: PutBack of v is Put of the other one, in bytes, in the row and in what it costs; and the other way.
func TestTwoOrders(t *testing.T) {
	r := rand.New(rand.NewSource(961))
	for n := range 17 {
		begin := chanceRow(t, r, 1<<n+3)
		for _, v := range values(r, n) {
			w, at := otherWay(n, v), r.Intn(4)
			if otherWay(n, w) != v {
				t.Fatalf("%d bits: %d is %d turned twice", n, v, otherWay(n, w))
			}
			for k, o := range orders {
				other := orders[1-k]
				e, f, s, q := rcenc.New(), rcenc.New(), begin.Fork(), begin.Fork()
				wantCost(t, o, s, at, n, v, costOf(t, other, q, at, n, w))
				put(t, o, e, s, at, n, v)
				put(t, other, f, q, at, n, w)
				wantSame(t, e, f)
				if n <= 10 || v == 0 {
					wantAlike(t, s, q)
				}
				wantCost(t, o, s, at, n, v, costOf(t, other, q, at, n, w))
			}
		}
	}
}

// P9.6: what was put in the one order is read in the other as the other number, which moves the same probabilities.
func TestTwoOrdersRead(t *testing.T) {
	r := rand.New(rand.NewSource(962))
	for n := range 17 {
		for _, v := range values(r, n)[:min(1<<n, 24)] {
			for k, o := range orders {
				e, s, row := rcenc.New(), made(t, 1<<n), made(t, 1<<n)
				put(t, o, e, s, 0, n, v)
				wantGet(t, orders[1-k], begun(t, e.Bytes()...), row, 0, n, otherWay(n, v))
				if n <= 10 {
					wantAlike(t, row, s)
				}
			}
		}
	}
}

// P9.6: some by hand: 1 and 4 of three bits, 6 and 3; of numbers whose bits are the same either way both orders are one.
func TestTwoOrdersByHand(t *testing.T) {
	for _, c := range []struct{ n, v, w int }{{0, 0, 0}, {1, 1, 1}, {2, 1, 2}, {3, 1, 4}, {3, 6, 3}, {3, 5, 5}, {3, 2, 2}, {4, 9, 9}, {5, 1, 16}, {8, 0xB0, 0x0D}, {16, 1, 0x8000}, {16, 0xBEEF, 0xF77D}, {16, 0xFFFF, 0xFFFF}} {
		e, f := rcenc.New(), rcenc.New()
		put(t, orders[1], e, made(t, 1<<c.n), 0, c.n, c.v)
		put(t, orders[0], f, made(t, 1<<c.n), 0, c.n, c.w)
		wantSame(t, e, f)
	}
}
