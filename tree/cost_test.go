package tree_test

import (
	"math/rand"
	"testing"

	"pith/prob"
	"pith/rcenc"
)

// sumOf: what the bits of v cost along their way, by the words of the chapter.
func sumOf(o order, s *prob.Set, at, n, v int) int {
	sum := 0
	for _, c := range o.way(at, n, v) {
		p, _ := s.At(c.place)
		sum += prob.Cost(p, c.bit)
	}
	return sum
}

// P9.4: the chapter's examples, and what they are back.
func TestCostOfTheExamples(t *testing.T) {
	s := made(t, 8)
	wantCost(t, orders[0], s, 0, 3, 5, 50)
	wantCost(t, orders[1], s, 0, 3, 5, 50)
	wantCost(t, orders[0], s, 0, 3, 0, 48)
	wantCost(t, orders[0], s, 0, 3, 7, 51)
	put(t, orders[0], rcenc.New(), s, 0, 3, 5)
	both := prob.Cost(992, 1) + prob.Cost(1056, 0)
	wantCost(t, orders[0], s, 0, 3, 5, both+prob.Cost(992, 1))
	wantCost(t, orders[0], s, 0, 3, 4, both+prob.Cost(992, 0))
	wantCost(t, orders[1], s, 0, 3, 5, both+prob.Cost(992, 1))
	wantCost(t, orders[1], s, 0, 3, 1, both+prob.Cost(992, 0))
	wantCost(t, orders[0], s, 0, 3, 3, prob.Cost(992, 0)+34)
}

// P9.4: any rows, trees of every depth: the sum along the way; asked again it is the same, and nothing has moved.
func TestCostIsTheSumAlongTheWay(t *testing.T) {
	r := rand.New(rand.NewSource(941))
	for _, o := range orders {
		for n := range 17 {
			s := chanceRow(t, r, 1<<n+4)
			row := s.Fork()
			for _, at := range []int{0, 1, 4} {
				for _, v := range values(r, n) {
					want := sumOf(o, row, at, n, v)
					wantCost(t, o, s, at, n, v, want)
					wantCost(t, o, s, at, n, v, want)
				}
			}
			wantAlike(t, s, row)
		}
	}
}

// P9.4: no bits cost nothing.
func TestCostOfNoBits(t *testing.T) {
	for _, o := range orders {
		s := driven(t, 3, 1)
		for at := range 3 {
			wantCost(t, o, s, at, 0, 0, 0)
		}
	}
}

// P9.4: rows whose probabilities are at their ends: a likely bit costs 1, another one 103.
func TestCostAtTheEnds(t *testing.T) {
	for _, o := range orders {
		for n := range 17 {
			zeros, ones := driven(t, 1<<n, 0), driven(t, 1<<n, 1)
			all := 1<<n - 1
			wantCost(t, o, zeros, 0, n, 0, n)
			wantCost(t, o, zeros, 0, n, all, 103*n)
			wantCost(t, o, ones, 0, n, all, n)
			wantCost(t, o, ones, 0, n, 0, 103*n)
			if n > 0 {
				wantCost(t, o, zeros, 0, n, 1, n+102)
				wantCost(t, o, ones, 0, n, all-1, n+102)
			}
		}
	}
}

// P9.4: the costs follow the probabilities: those ahead of a Put and those behind it, of every number of the tree.
func TestCostFollowsThePuts(t *testing.T) {
	r := rand.New(rand.NewSource(942))
	for _, o := range orders {
		e, s := rcenc.New(), made(t, 40)
		row := s.Fork()
		for range 60 {
			at, v := r.Intn(9), r.Intn(32)
			for w := range 32 {
				wantCost(t, o, s, at, 5, w, sumOf(o, row, at, 5, w))
			}
			put(t, o, e, s, at, 5, v)
			for _, c := range o.way(at, 5, v) {
				row.Turn(c.place, c.bit)
			}
		}
	}
}

// P9.7: the cost of v never rises by a Put of v, from any rows, and comes down to 1 a bit.
func TestCostNeverRises(t *testing.T) {
	r := rand.New(rand.NewSource(971))
	for _, o := range orders {
		for n := range 17 {
			begin := chanceRow(t, r, 1<<n+2)
			for _, v := range values(r, n)[:min(1<<n, 12)] {
				s, at := begin.Fork(), r.Intn(3)
				was := costOf(t, o, s, at, n, v)
				first := was
				for k := range 400 {
					e := rcenc.New()
					put(t, o, e, s, at, n, v)
					c := costOf(t, o, s, at, n, v)
					if c > was {
						t.Fatalf("%s: %d bits, %d: behind Put %d the cost is %d, ahead of it %d", o.name, n, v, k, c, was)
					}
					was = c
				}
				if was != n || first < was {
					t.Fatalf("%s: %d bits, %d: the cost comes from %d to %d, want %d", o.name, n, v, first, was, n)
				}
			}
		}
	}
}

// P9.7: not from any probability that there is either, at any step down.
func TestCostNeverRisesFromAnywhere(t *testing.T) {
	for _, o := range orders {
		for bit := range 2 {
			for v := range 8 {
				s := driven(t, 9, bit)
				was := costOf(t, o, s, 1, 3, v)
				for k := range 500 {
					put(t, o, rcenc.New(), s, 1, 3, v)
					c := costOf(t, o, s, 1, 3, v)
					if c > was {
						t.Fatalf("%s: %d: behind Put %d the cost is %d, ahead of it %d", o.name, v, k, c, was)
					}
					was = c
				}
				if was != 3 {
					t.Errorf("%s: %d: the cost comes to %d", o.name, v, was)
				}
			}
		}
	}
}

// P9.7: of another number it may rise: what comes again gets cheaper at the others' expense.
func TestCostOfOthersRises(t *testing.T) {
	for _, o := range orders {
		s := made(t, 8)
		before := costOf(t, o, s, 0, 3, 2)
		for range 50 {
			put(t, o, rcenc.New(), s, 0, 3, 5)
		}
		if after := costOf(t, o, s, 0, 3, 2); after <= before {
			t.Errorf("%s: the other number's cost comes from %d to %d", o.name, before, after)
		}
	}
}
