package sha_test

import (
	"bytes"
	"math/rand"
	"slices"
	"sync"
	"testing"

	"pith/sha"
)

// P4.7, W3: what is handed in stays as it was, the room behind it too.
func TestNothingIsChanged(t *testing.T) {
	all := chanceBytes(rand.New(rand.NewSource(471)), 400)
	before := bytes.Clone(all)
	for _, n := range edges {
		h := sha.New()
		h.Write(all[:n])
		h.Sum()
		h.Fork().Write(all[n : 2*n])
		sha.Sum(all[:n], nil, all[n:n+1])
		if !bytes.Equal(all, before) {
			t.Fatalf("%d bytes: they have become % X", n, all)
		}
	}
}

// P4.7, W3: the list of the pieces stays as it was, the room behind it too.
func TestPiecesAreNotChanged(t *testing.T) {
	a, b, room := []byte("a"), []byte("b"), []byte("room")
	list := [][]byte{a, nil, b, room}
	sha.Sum(list[:3]...)
	same := func(x, y []byte) bool { return string(x) == string(y) && (x == nil) == (y == nil) }
	if !slices.EqualFunc(list, [][]byte{a, nil, b, room}, same) {
		t.Errorf("the list has become %q", list)
	}
	if &list[0][0] != &a[0] || &list[2][0] != &b[0] || &list[3][0] != &room[0] {
		t.Error("the list has other pieces")
	}
}

// P4.7, W8: bytes that were written and are changed then do not count.
func TestNothingIsKept(t *testing.T) {
	r := rand.New(rand.NewSource(472))
	for _, n := range edges {
		b := chanceBytes(r, n)
		want := summed(b)
		h, room := sha.New(), append(bytes.Clone(b), chanceBytes(r, 80)...)
		h.Write(room[:n])
		f := h.Fork()
		fill(room, 99)
		wantHash(t, h, n, want)
		wantHash(t, f, n, want)
		h.Write(room[:30])
		fill(room, 77)
		wantHash(t, h, n+30, summed(joined(b, bytes.Repeat([]byte{99}, 30))))
		wantHash(t, f, n, want)
	}
}

// P4.7, W3: a sum that was answered, or given to Resume, is the caller's own.
func TestSumsAreTheCallersOwn(t *testing.T) {
	h := eaten([]byte("abc"))
	sum := h.Sum()
	fill(sum[:], 1)
	wantHash(t, h, 3, summed([]byte("abc")))
	sum = summed([]byte("abc"))
	g := resumed(t, sum, 64)
	fill(sum[:], 2)
	wantHash(t, g, 64, goneOn(asState(summed([]byte("abc"))), 64, nil))
}

// W2: how goroutines run is not to be seen.
func TestManyAtOnce(t *testing.T) {
	var group sync.WaitGroup
	for i := range 8 {
		group.Go(func() {
			r := rand.New(rand.NewSource(int64(473 + i)))
			for range 50 {
				b := chanceBytes(r, r.Intn(300))
				cut := r.Intn(len(b) + 1)
				h := eaten(b[:cut])
				f := h.Fork()
				h.Write(b[cut:])
				if h.Sum() != summed(b) || f.Sum() != summed(b[:cut]) || sha.Sum(b) != h.Sum() {
					t.Errorf("%d bytes: another sum", len(b))
				}
			}
		})
	}
	group.Wait()
}

// P4.7: every call ends, at all edges at once.
func TestEveryCallEnds(t *testing.T) {
	numbers := []int{least, least + 1, -1 << 60, -64, -1, 0, 1, 63, 64, 65, 1 << 60, 1<<60 + 64, greatest - 63, greatest}
	for _, n := range numbers {
		sha.Pad(n)
		h, e := sha.Resume([32]byte{}, n)
		if (h == nil) != (e != 0) {
			t.Errorf("Resume behind %d bytes: %v, error %d", n, h, e)
		}
		if h == nil {
			continue
		}
		for _, b := range [][]byte{nil, {}, {0}, make([]byte, 63), make([]byte, 64), make([]byte, 1000)} {
			h.Write(b)
			h.Fork().Sum()
			h.Len()
		}
	}
	sha.Step([8]uint32{}, [64]byte{})
}
