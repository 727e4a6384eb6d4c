package window_test

import (
	"math/rand"
	"slices"
	"testing"

	"pith/api"
)

// standing: windows with no byte, fewer bytes than their size, just as many, one more and many more.
func standing(t *testing.T) []*pair {
	t.Helper()
	list := []*pair{}
	for _, size := range []int{1, 2, 5, 300, api.MaxTold} {
		for _, n := range []int{0, 1, 2, 4, 5, 6, 299, 300, 301, 1000} {
			p := newPair(t, size)
			p.put(count(n)...)
			list = append(list, p)
		}
	}
	return list
}

// P10.4, W5: a distance that is not in the window, with every length, right or wrong: ErrRange, no bytes, and nothing has changed.
func TestCopyFromNoDistance(t *testing.T) {
	for _, p := range standing(t) {
		full := p.u.full()
		for _, d := range slices.Concat(noDistances, []int{full + 1, full + 2, 2*full + 1, -full, -full - 1, p.u.size + 1}) {
			if d >= 1 && d <= full {
				continue
			}
			for _, n := range slices.Concat([]int{0, 1, 2, 273}, noLengths) {
				wantNoCopy(t, p.w, d, n)
			}
		}
		p.same(t)
	}
}

// P10.4, W5: a length that is none, at distances that are in the window.
func TestCopyOfNoLength(t *testing.T) {
	for _, p := range standing(t) {
		full := p.u.full()
		for _, d := range []int{1, 2, full / 2, full - 1, full} {
			if d < 1 || d > full {
				continue
			}
			for _, n := range noLengths {
				wantNoCopy(t, p.w, d, n)
			}
		}
		p.same(t)
	}
}

// P10.4: what was refused is not remembered: the next call is as if it had not been asked.
func TestGoesOnBehindWhatWasRefused(t *testing.T) {
	for _, p := range standing(t) {
		full := p.u.full()
		for k := range 30 {
			wantNoCopy(t, p.w, full+1, k)
			wantNoCopy(t, p.w, full, 274+k)
			wantNoLast(t, p.w, full+1)
			wantNoLast(t, p.w, -k)
			if full > 0 {
				p.copy(t, 1+k%full, 1+k)
				full = p.u.full()
			}
		}
		p.put(1, 2, 3)
		p.same(t)
	}
}

// P10.2, P10.4: distances and lengths by chance, right and wrong: the error goes by the words alone.
func TestRightAndWrongMixed(t *testing.T) {
	r := rand.New(rand.NewSource(1044))
	for _, size := range smallSizes {
		p := newPair(t, size)
		for range 300 {
			d, n := r.Intn(2*size+4)-2, r.Intn(600)-150
			if d >= 1 && d <= p.u.full() && n >= 0 && n <= 273 {
				p.copy(t, d, n)
			} else {
				wantNoCopy(t, p.w, d, n)
			}
			if d < 1 || d > p.u.full() {
				wantNoLast(t, p.w, d)
			} else {
				wantLast(t, p.w, d, p.u.last(d))
			}
			p.put(byte(r.Intn(256)))
		}
		p.same(t)
	}
}
