package lzenc_test

import (
	"bytes"
	"math/rand"
	"testing"

	"pith/api"
)

// P14.8: a fork and its elder go on alike: the same symbols, the same bytes.
func TestForkGoesOnAlike(t *testing.T) {
	for _, a := range situations(t) {
		f := a.fork()
		a.same(t)
		f.same(t)
		r := rand.New(rand.NewSource(1481))
		for range 60 {
			y := a.w.chanceSymbol(r)
			a.put(t, y)
			f.put(t, y)
		}
		if x, y := a.cut(t), f.cut(t); !bytes.Equal(x, y) {
			t.Errorf("% X and % X", x, y)
		}
	}
}

// P14.8: neither sees what is done to the other: each move of the elder beside each of the fork, whichever is first.
func TestForkAndElderGoApart(t *testing.T) {
	for _, lead := range situations(t) {
		for _, one := range moveNames() {
			for _, other := range moveNames() {
				elder := lead.fork()
				fork := elder.fork()
				moves[one](t, elder)
				fork.same(t)
				moves[other](t, fork)
				elder.same(t)
				fork.same(t)
				chance(t, fork, rand.New(rand.NewSource(1482)), 15)
				elder.same(t)
				chance(t, elder, rand.New(rand.NewSource(1483)), 15)
				fork.cut(t)
				elder.cut(t)
			}
		}
	}
}

// P14.8: each probability is the fork's own: what moves there, by symbols of each kind, length and slot, is not seen in the elder.
func TestForkMovesNothing(t *testing.T) {
	for _, p := range boundProps {
		elder := newPair(t, p, 1<<17)
		elder.raw(count(1 << 17)...)
		fork := elder.fork()
		for range 3 {
			for num := range 4 {
				for _, n := range []int{2, 3, 4, 5, 9, 10, 13, 17, 18, 90, 273} {
					fork.put(t, match(n, 1<<(n%17)), rep(n, num), lit(byte(n)), match(n, 1<<(n%17)+n%9), lit(byte(n)), lit(byte(n*7)), lit(0), short())
				}
			}
		}
		elder.same(t)
		for _, y := range elder.w.panel() {
			if elder.w.refuses(y) == api.OK {
				wantCost(t, elder.e, y, newCost(elder.w, y))
			}
		}
		fork.cut(t)
		elder.cut(t)
	}
}

// newCost: what a symbol costs by probabilities that are all Half.
func newCost(w *twin, y api.Symbol) int {
	f := *w
	f.odds = newTwin(w.p, w.dict).odds
	return f.cost(y)
}

// P14.8: forks of forks, each on a way of its own.
func TestForksOfForks(t *testing.T) {
	r := rand.New(rand.NewSource(1484))
	all := []*pair{newPair(t, usual, 300)}
	for range 40 {
		a := all[r.Intn(len(all))]
		all = append(all, a.fork())
		names := moveNames()
		moves[names[r.Intn(len(names))]](t, a)
		chance(t, all[r.Intn(len(all))], r, 10)
	}
	for _, a := range all {
		a.same(t)
		a.cut(t)
	}
}

// P14.8: a try that is let go teaches the elder nothing, however far it went.
func TestATryLetGo(t *testing.T) {
	tried, calm := newPair(t, usual, 300), newPair(t, usual, 300)
	r := rand.New(rand.NewSource(1485))
	for range 20 {
		f := tried.fork()
		chance(t, f, rand.New(rand.NewSource(1486)), 40)
		f.cut(t)
		f.clear()
		y := calm.w.chanceSymbol(r)
		calm.put(t, y)
		tried.put(t, y)
	}
	if x, y := tried.cut(t), calm.cut(t); !bytes.Equal(x, y) {
		t.Errorf("% X and % X", x, y)
	}
}
