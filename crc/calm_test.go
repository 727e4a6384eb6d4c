package crc_test

import (
	"bytes"
	"math/rand"
	"slices"
	"sync"
	"testing"

	"pith/crc"
)

// P3.6, W3: what is handed in stays as it was, the room behind it too.
func TestNothingIsChanged(t *testing.T) {
	all := []byte("was and now, and the room behind")
	before := bytes.Clone(all)
	was, now := all[:3], all[8:11]
	for _, w := range sums() {
		w.sum(was, nil, now)
		w.more(7, was)
		w.patch(7, 9, 2, was, now)
		w.patch(7, 2, 2, was, now)
		w.patch(7, 9, 2, was, all[8:10])
		if !bytes.Equal(all, before) {
			t.Fatalf("%s bits: the bytes have become %q", w.name, all)
		}
	}
	for _, mask := range []uint32{0, 1, 0xFFFFFF, 0xFFFFFFFF} {
		crc.Flip(was, 0, mask)
		crc.Flip(was, 24, mask)
		if !bytes.Equal(all, before) {
			t.Fatalf("Flip has made of the bytes %q", all)
		}
	}
}

// P3.6, W3: the list of the pieces stays as it was, the room behind it too.
func TestPiecesAreNotChanged(t *testing.T) {
	for _, w := range sums() {
		a, b, room := []byte("a"), []byte("b"), []byte("room")
		list := [][]byte{a, nil, b, room}
		w.sum(list[:3]...)
		want := [][]byte{a, nil, b, room}
		if !slices.EqualFunc(list, want, func(x, y []byte) bool { return string(x) == string(y) && (x == nil) == (y == nil) }) {
			t.Errorf("%s bits: the list has become %q", w.name, list)
		}
		if &list[0][0] != &a[0] || &list[2][0] != &b[0] || &list[3][0] != &room[0] {
			t.Errorf("%s bits: the list has other pieces", w.name)
		}
	}
}

// P3.6, W2: nothing is kept: what was asked earlier does not count, an error neither.
func TestNothingIsKept(t *testing.T) {
	for _, w := range sums() {
		b := []byte("pith")
		first := w.sum(b)
		copy(b, "path")
		w.wantSum(t, w.carried(0, []byte("path")), b)
		w.noJoin(t, 1, 2, -1)
		w.noPatch(t, 1, 2, 3, b, b)
		noFlip(t, b, 99, 1)
		w.wantJoin(t, 1, 2, 0, 3)
		copy(b, "pith")
		w.wantSum(t, first, b)
		w.wantPatch(t, first, 4, 1, []byte("i"), []byte("a"), w.carried(0, []byte("path")))
	}
}

// W2: how goroutines run is not to be seen.
func TestManyAtOnce(t *testing.T) {
	var group sync.WaitGroup
	for i := range 8 {
		group.Go(func() {
			r := rand.New(rand.NewSource(int64(360 + i)))
			for _, w := range sums() {
				for range 30 {
					a, b, n := w.chance(r), w.chance(r), r.Intn(maxJoin+1)
					w.wantJoin(t, a, b, n, w.zeros(a, n)^b)
					text := chanceBytes(r, 50)
					w.wantSum(t, w.carried(0, text), text)
				}
			}
		})
	}
	group.Wait()
}

// P3.6: every call ends, at all edges at once.
func TestEveryCallEnds(t *testing.T) {
	numbers := slices.Concat(beside, outside)
	lists := [][]byte{nil, {}, {0}, {255, 1}, make([]byte, 33)}
	for _, w := range sums() {
		for _, n := range numbers {
			w.join(w.ones(), 0, n)
			for _, off := range []int{least, -1, 0, 1, n, greatest} {
				for i, b := range lists {
					w.patch(w.ones(), n, off, b, b)
					w.patch(0, n, off, b, lists[(i+1)%len(lists)])
				}
			}
		}
	}
	for _, at := range numbers {
		for _, b := range lists {
			crc.Flip(b, at, 0xFFFFFFFF)
			crc.Flip(b, at, 0)
		}
	}
}
