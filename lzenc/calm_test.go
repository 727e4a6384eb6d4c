package lzenc_test

import (
	"bytes"
	"math/rand"
	"sync"
	"testing"

	"pith/api"
	"pith/lzenc"
)

// P14.10: no call panics, at all numbers, in any order; each answers what the words say.
func TestEveryCallEnds(t *testing.T) {
	numbers := []int{least, least + 1, -1 << 32, -1, 0, 1, 2, 3, 4, 5, 9, 272, 273, 274, 1 << 16, 1 << 31, api.MaxTold, api.MaxTold + 1, greatest - 1, greatest}
	for _, a := range situations(t) {
		for _, kind := range append([]int{5, 255, 256, 257}, numbers...) {
			for _, n := range numbers {
				for _, d := range numbers {
					y := api.Symbol{Kind: kind, Byte: byte(n), Len: n, Dist: d}
					want, cost := a.w.refuses(y), 0
					if want == api.OK {
						cost = a.w.cost(y)
					}
					if c, errno := a.e.Cost(y); c != cost || errno != want {
						t.Fatalf("Cost of %+v: %d, error %d; want %d, error %d", y, c, errno, cost, want)
					}
					if want != api.OK {
						if errno := a.e.Put(y); errno != want {
							t.Fatalf("Put of %+v: error %d, want %d", y, errno, want)
						}
					}
				}
			}
		}
		a.same(t)
	}
}

// P14.10: all calls mixed, over many states.
func TestAllCallsMixed(t *testing.T) {
	for k, p := range boundProps {
		r := rand.New(rand.NewSource(int64(1411 + k)))
		a := newPair(t, p, 1+r.Intn(500))
		for range 250 {
			names := moveNames()
			switch r.Intn(4) {
			case 0:
				moves[names[r.Intn(len(names))]](t, a)
			case 1:
				c := stateWrong[r.Intn(len(stateWrong))]
				wantRefused(t, a.e, c.y, c.errno)
			default:
				chance(t, a, r, 5)
			}
		}
		a.same(t)
		a.cut(t)
	}
}

// P14.10, W2: two encoders know nothing of one another.
func TestEncodersAreApart(t *testing.T) {
	one, other := newPair(t, usual, 4096), newPair(t, usual, 4096)
	one.put(t, lit(1), lit(2), match(9, 2))
	other.same(t)
	other.put(t, lit(3), short())
	one.same(t)
	one.clear()
	other.same(t)
	other.reset(t, api.Props{LC: 4})
	one.same(t)
	one.cut(t)
	other.cut(t)
}

// W2: how goroutines run is not to be seen.
func TestManyAtOnce(t *testing.T) {
	work := func(seed int64) []byte {
		r := rand.New(rand.NewSource(seed))
		e, errno := lzenc.New(usual, 300)
		if errno != api.OK {
			return nil
		}
		w := newTwin(usual, 300)
		var all []byte
		for range 600 {
			y := w.chanceSymbol(r)
			if e.Put(y) == api.OK {
				w.apply(y)
			}
			if r.Intn(50) == 0 {
				all = append(all, e.Cut()...)
			}
		}
		return append(all, e.Fork().Cut()...)
	}
	var want [8][]byte
	for k := range want {
		want[k] = work(int64(1431 + k))
	}
	var group sync.WaitGroup
	for k := range want {
		group.Go(func() {
			for range 3 {
				if b := work(int64(1431 + k)); len(b) < 100 || !bytes.Equal(b, want[k]) {
					t.Errorf("the goroutine %d: other bytes", k)
				}
			}
		})
	}
	group.Wait()
}

// W7: memory is taken as bytes come, not for the dictionary's size; and none for costs but what the answer needs.
func TestLittleMemoryIsTaken(t *testing.T) {
	for range 50 {
		e := made(t, usual, api.MaxTold)
		wantPut(t, e, lit(1), match(3, 1))
		e.Fork().Cut()
	}
	e := made(t, usual, 4096)
	e.Raw(count(500)...)
	wantPut(t, e, match(20, 400), lit(3))
	for _, y := range []api.Symbol{lit(7), match(200, 300), rep(3, 2), short(), match(2, 5000), {}} {
		if n := testing.AllocsPerRun(50, func() { e.Cost(y) }); n > 12 {
			t.Errorf("the cost of %+v takes memory %v times", y, n)
		}
	}
}

// P14.10: many symbols do not make it slow: none goes over what came before.
func TestManySymbols(t *testing.T) {
	e := made(t, usual, 1<<20)
	wantPut(t, e, lit('a'), lit('b'))
	for k := range 100000 {
		wantPut(t, e, lit(byte(k)), rep(3, 0), short())
		e.Size()
		e.Cost(match(9, 2))
	}
	if b := e.Cut(); len(b) < 1000 {
		t.Errorf("%d bytes", len(b))
	}
}
