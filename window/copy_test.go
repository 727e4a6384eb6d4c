package window_test

import (
	"bytes"
	"math/rand"
	"testing"

	"pith/api"
	"pith/window"
)

// wantCopy: just these bytes, as many.
func wantCopy(t *testing.T, w *window.Window, d int, want ...byte) {
	t.Helper()
	if got := copied(t, w, d, len(want)); !bytes.Equal(got, want) {
		t.Errorf("Copy(%d, %d): % X, want % X", d, len(want), got, want)
	}
}

// P10.4: at distances below, equal to and above the number of bytes, written out.
func TestCopyByHand(t *testing.T) {
	w := made(t, 6)
	w.Put(1, 2, 3, 4)
	wantCopy(t, w, 1, 4)
	wantHeld(t, w, 1, 2, 3, 4, 4)
	wantCopy(t, w, 5, 1, 2, 3)
	wantHeld(t, w, 3, 4, 4, 1, 2, 3)
	wantCopy(t, w, 6, 3, 4, 4, 1, 2, 3)
	wantHeld(t, w, 3, 4, 4, 1, 2, 3)
	wantCopy(t, w, 6, 3, 4, 4, 1, 2, 3, 3, 4, 4, 1)
	wantHeld(t, w, 2, 3, 3, 4, 4, 1)
	wantCopy(t, w, 3, 4, 4, 1, 4)
	wantHeld(t, w, 4, 1, 4, 4, 1, 4)
	wantCopy(t, w, 2, 1, 4, 1, 4, 1, 4, 1, 4, 1)
	wantHeld(t, w, 4, 1, 4, 1, 4, 1)
	wantCopy(t, w, 1, 1, 1, 1, 1)
	wantHeld(t, w, 4, 1, 1, 1, 1, 1)
	wantCounts(t, w, 6, 6, 4+1+3+6+10+4+9+4)
}

// P10.4: a window of one byte, and one of two.
func TestCopyInTheLeastWindows(t *testing.T) {
	w := made(t, 1)
	w.Put(5, 6, 7)
	wantCopy(t, w, 1, 7)
	wantCopy(t, w, 1, bytes.Repeat([]byte{7}, 273)...)
	wantCounts(t, w, 1, 1, 277)
	wantNoCopy(t, w, 2, 1)
	wantHeld(t, w, 7)

	w = made(t, 2)
	w.Put(5)
	wantNoCopy(t, w, 2, 1)
	wantCopy(t, w, 1, 5, 5)
	w.Put(6)
	wantCopy(t, w, 2, 5, 6, 5)
	wantHeld(t, w, 6, 5)
	wantNoCopy(t, w, 3, 1)
	wantCounts(t, w, 2, 2, 7)
}

// P10.4: every distance and every length from every place of small rings on: so over the ring's end too, before it is full and behind that.
func TestCopyFromEveryPlace(t *testing.T) {
	for size := 1; size <= 7; size++ {
		for before := range 3*size + 1 {
			for d := 1; d <= min(size, before); d++ {
				for n := range 3*size + 2 {
					p := newPair(t, size)
					p.put(count(before)...)
					p.copy(t, d, n)
					p.same(t)
				}
			}
		}
	}
}

// P10.4: the greatest lengths, at distances at all edges, in windows that are smaller, as great and greater, fresh or gone over their end.
func TestCopyOfManyBytes(t *testing.T) {
	for _, size := range sizes {
		for _, before := range []int{1, 2, 3, 273, 274, 1500} {
			for _, n := range lengths {
				p := newPair(t, size)
				p.put(count(before)...)
				full := p.u.full()
				for _, d := range []int{1, 2, 3, 4, n - 1, n, n + 1, 272, 273, 274, 2 * n, full - 1, full} {
					if d >= 1 && d <= full {
						p.copy(t, d, n)
					}
				}
				p.same(t)
			}
		}
	}
}

// P10.4: a Copy of no bytes changes nothing, at every distance that is in the window.
func TestCopyOfNoBytes(t *testing.T) {
	for _, size := range smallSizes {
		p := newPair(t, size)
		p.put(count(size + size/2)...)
		for d := 1; d <= p.u.full(); d++ {
			p.copy(t, d, 0)
		}
		p.same(t)
	}
}

// P10.4: how many bytes it holds by now is what counts, not how many it could: a distance comes into the window as bytes come.
func TestDistancesComeIn(t *testing.T) {
	w := made(t, 5)
	for k := range 9 {
		for d := 1; d <= 8; d++ {
			if d <= min(5, k) {
				wantCopyOf(t, w.Fork(), d, api.OK)
			} else {
				wantCopyOf(t, w.Fork(), d, api.ErrRange)
			}
		}
		w.Put(byte(k))
	}
}

func wantCopyOf(t *testing.T, w *window.Window, d int, want api.Errno) {
	t.Helper()
	if _, errno := w.Copy(d, 4); errno != want {
		t.Errorf("Copy(%d, 4) with %d bytes: error %d, want %d", d, w.Full(), errno, want)
	}
}

// P10.2 to P10.5: puts, copies and beginnings anew, mixed.
func TestMixed(t *testing.T) {
	r := rand.New(rand.NewSource(1041))
	for _, size := range sizes {
		for range 5 {
			p := newPair(t, size)
			for range 120 {
				p.chance(t, r)
			}
			p.same(t)
		}
	}
}

// P10.2 to P10.5: likewise in small windows, asked behind every step.
func TestMixedInSmallWindows(t *testing.T) {
	r := rand.New(rand.NewSource(1042))
	for size := 1; size <= 20; size++ {
		p := newPair(t, size)
		for range 200 {
			p.chance(t, r)
			p.same(t)
		}
	}
}
