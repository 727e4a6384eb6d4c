package lzenc_test

import (
	"math/rand"
	"testing"

	"pith/api"
)

// situations: encoders of which much is known: new, behind raw bytes, behind symbols of each kind, with a dictionary that is full.
func situations(t *testing.T) []*pair {
	t.Helper()
	empty, raw, small, long := newPair(t, usual, 4096), newPair(t, api.Props{LC: 1, LP: 1, PB: 1}, 4096), newPair(t, api.Props{}, 3), newPair(t, api.Props{LC: 2, LP: 2, PB: 4}, 400)
	raw.raw(count(300)...)
	small.raw(1, 2)
	small.put(t, lit(3), lit(4), match(4, 3), lit(5))
	chance(t, long, rand.New(rand.NewSource(1401)), 300)
	copied := long.fork()
	copied.put(t, match(5, 33))
	return []*pair{empty, raw, small, long, copied}
}

// P14.2, P14.3, P14.10: what the state refuses, also where the window would too (in an empty dictionary): the state's error; nothing has changed.
func TestRefusedByTheState(t *testing.T) {
	for _, a := range situations(t) {
		for _, c := range stateWrong {
			wantRefused(t, a.e, c.y, c.errno)
		}
		a.same(t)
	}
}

// P14.2, P14.3, P14.10: what the window refuses: a distance that is not in it, of a match, a rep and a short rep; nothing has changed.
func TestRefusedByTheWindow(t *testing.T) {
	for _, a := range situations(t) {
		for _, d := range []int{a.w.held() + 1, a.w.held() + 2, 5000, 1 << 31, api.MaxTold} {
			for _, n := range lengths {
				wantRefused(t, a.e, match(n, d), api.ErrRange)
			}
		}
		a.same(t)
	}
	for _, e := range []*pair{newPair(t, usual, 4096), newPair(t, usual, 1)} {
		for i := range 4 {
			wantRefused(t, e.e, rep(2, i), api.ErrRange)
			wantRefused(t, e.e, rep(273, i), api.ErrRange)
		}
		wantRefused(t, e.e, short(), api.ErrRange)
		e.same(t)
	}
}

// P14.2, P14.3: the last distance that is in the window is taken, one more refused, of each length; whether the dictionary is full or not.
func TestTheLastDistance(t *testing.T) {
	for _, dict := range []int{1, 2, 9, 300} {
		for _, came := range []int{1, 2, 8, 9, 10, 299, 300, 301, 700} {
			for _, n := range []int{2, 9, 273} {
				a := newPair(t, usual, dict)
				a.raw(count(came)...)
				d := min(dict, came)
				wantRefused(t, a.e, match(n, d+1), api.ErrRange)
				if !a.put(t, match(n, d), rep(n, 0), lit(9), short()) {
					t.Fatalf("the dictionary %d, %d bytes, the distance %d", dict, came, d)
				}
				a.cut(t)
			}
		}
	}
}

// P14.10: symbols that are refused between others, by Put and by Cost, are as if they had not been asked: in the bytes, the size, the costs and all that comes later.
func TestGoesOnBehindWhatWasRefused(t *testing.T) {
	for _, p := range boundProps {
		r := rand.New(rand.NewSource(1402))
		calm, asked := newPair(t, p, 300), newPair(t, p, 300)
		for range 60 {
			y := calm.w.chanceSymbol(r)
			if calm.w.refuses(y) != api.OK {
				continue
			}
			c := stateWrong[r.Intn(len(stateWrong))]
			wantRefused(t, asked.e, c.y, c.errno)
			wantRefused(t, asked.e, match(2+r.Intn(272), asked.w.held()+1), api.ErrRange)
			calm.put(t, y)
			asked.put(t, y)
			if calm.e.Size() != asked.e.Size() {
				t.Fatalf("the sizes are %d and %d", calm.e.Size(), asked.e.Size())
			}
		}
		calm.same(t)
		asked.same(t)
		if x, y := calm.cut(t), asked.cut(t); string(x) != string(y) {
			t.Fatalf("% X and % X", x, y)
		}
	}
}

// P14.3: asking for costs changes nothing, however often and of whatever: the next answers are the same.
func TestCostChangesNothing(t *testing.T) {
	for _, a := range situations(t) {
		want := map[api.Symbol]int{}
		for range 3 {
			for _, y := range a.w.panel() {
				n, _ := a.e.Cost(y)
				if old, had := want[y]; had && old != n {
					t.Errorf("the cost of %+v was %d and is %d", y, old, n)
				}
				want[y] = n
			}
		}
		a.same(t)
		chance(t, a, rand.New(rand.NewSource(1403)), 50)
		a.cut(t)
	}
}
