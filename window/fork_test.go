package window_test

import (
	"math/rand"
	"testing"

	"pith/api"
)

// P10.5: begun anew, no byte has come, and its size stays.
func TestClear(t *testing.T) {
	for _, size := range sizes {
		for _, n := range amounts(size) {
			p := newPair(t, size)
			p.put(count(n)...)
			p.clear()
			p.same(t)
			wantCounts(t, p.w, size, 0, 0)
			wantNoLast(t, p.w, 1)
			wantNoCopy(t, p.w, 1, 0)
			p.clear()
			p.same(t)
		}
	}
}

// P10.5: nothing of before is seen in a window that is begun anew and filled anew, byte by byte, at once, and by copies.
func TestFilledAnew(t *testing.T) {
	for _, size := range smallSizes {
		for _, n := range []int{1, size - 1, size, size + 1, 3*size + 1} {
			p := newPair(t, size)
			for round := range 3 {
				p.put(count(n + round)...)
				p.same(t)
				p.clear()
				for k := range min(size+2, 20) {
					p.put(byte(99 + k + round))
					p.same(t)
				}
				p.clear()
				p.put(byte(round))
				p.copy(t, 1, 273)
				p.same(t)
				p.clear()
			}
		}
	}
}

// P10.5: a fork has the same size, and the same bytes have come into it.
func TestForkIsAlike(t *testing.T) {
	for _, size := range sizes {
		for _, n := range amounts(size) {
			p := newPair(t, size)
			p.put(count(n)...)
			p.fork(t).same(t)
			p.same(t)
		}
	}
}

// P10.5: what the one does the other does not see: each of Put, Copy and Clear, by either, before the ring is full and behind that.
func TestForkIsApart(t *testing.T) {
	acts := []func(p *pair){
		func(p *pair) { p.put(77) },
		func(p *pair) { p.put(count(1000)...) },
		func(p *pair) { p.copy(t, p.u.full(), 1) },
		func(p *pair) { p.copy(t, 1, 273) },
		func(p *pair) { p.clear() },
		func(p *pair) { p.clear(); p.put(55, 56) },
	}
	for _, size := range sizes {
		for _, n := range []int{1, 2, 5, size - 1, size, size + 1, 2*size + 3} {
			if n < 1 || n > 3000 {
				continue
			}
			for _, act := range acts {
				for _, other := range acts {
					p := newPair(t, size)
					p.put(count(n)...)
					f := p.fork(t)
					act(f)
					f.same(t)
					p.same(t)
					other(p)
					p.same(t)
					f.same(t)
				}
			}
		}
	}
}

// P10.5: of one window many forks go on, each another way, from the room behind its ring on.
func TestForksSideBySide(t *testing.T) {
	for _, size := range []int{1, 3, 40, 1 << 31} {
		p := newPair(t, size)
		p.put(count(33)...)
		list := []*pair{p}
		for k := range 10 {
			f := p.fork(t)
			f.put(byte(k), byte(k+50), byte(k+100))
			list = append(list, f)
		}
		for k, f := range list {
			f.copy(t, 1, k+1)
			f.put(byte(200 + k))
		}
		for _, f := range list {
			f.same(t)
		}
	}
}

// P10.5: forks of forks, by chance; all of them go on, whoever comes from whom.
func TestForksOfForks(t *testing.T) {
	r := rand.New(rand.NewSource(1051))
	for _, size := range []int{1, 2, 6, 30, 400, api.MaxTold} {
		list := []*pair{newPair(t, size)}
		for range 300 {
			k := r.Intn(len(list))
			if r.Intn(6) > 0 {
				list[k].chance(t, r)
				continue
			}
			f := list[k].fork(t)
			if len(list) < 12 {
				list = append(list, f)
			} else {
				list[r.Intn(len(list))] = f
			}
		}
		for _, p := range list {
			p.same(t)
		}
	}
}
