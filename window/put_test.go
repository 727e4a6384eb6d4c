package window_test

import (
	"math/rand"
	"slices"
	"testing"
)

// amounts: of bytes that come into a window: none, fewer than its size, just as many, one more, many times as many.
func amounts(size int) []int {
	all := []int{0, 1, 2, 3, 60, 1000}
	if size <= 1000 {
		all = append(all, size-1, size, size+1, 2*size-1, 2*size, 2*size+1, 7*size+size/2, 50*size)
	}
	return all
}

// P10.2, P10.3: in one Put.
func TestOnePut(t *testing.T) {
	for _, size := range sizes {
		for _, n := range amounts(size) {
			p := newPair(t, size)
			p.put(count(n)...)
			p.same(t)
			p.put(200, 201)
			p.same(t)
		}
	}
}

// P10.2, P10.3: in many, of one byte and of more, each over the ring's end sooner or later.
func TestManyPuts(t *testing.T) {
	for _, size := range sizes {
		for _, n := range amounts(size) {
			for _, at := range []int{1, 2, 3, 5, 64} {
				p := newPair(t, size)
				for _, piece := range pieces(count(min(n, 3000)), at) {
					p.put(piece...)
				}
				p.same(t)
			}
		}
	}
}

// P10.2: asked behind every byte.
func TestAskedBehindEveryByte(t *testing.T) {
	for _, size := range smallSizes[:9] {
		p := newPair(t, size)
		p.same(t)
		for _, b := range count(min(4*size+3, 250)) {
			p.put(b)
			p.same(t)
		}
	}
}

// P10.3: bytes in one Put are the bytes in several, however they are cut.
func TestPutsInOtherPieces(t *testing.T) {
	r := rand.New(rand.NewSource(1031))
	for _, size := range smallSizes {
		for range 30 {
			all := chanceBytes(r, r.Intn(3*size+20))
			one, several := newPair(t, size), newPair(t, size)
			one.put(all...)
			for rest := all; len(rest) > 0; {
				n := 1 + r.Intn(len(rest))
				several.put(rest[:n]...)
				rest = rest[n:]
			}
			one.same(t)
			several.same(t)
		}
	}
}

// P10.3: every length of a Put from every place of the ring on, with bytes of before and without.
func TestPutFromEveryPlace(t *testing.T) {
	for size := 1; size <= 7; size++ {
		for before := range 3*size + 1 {
			for n := range 3*size + 2 {
				p := newPair(t, size)
				p.put(count(before)...)
				p.put(slices.Repeat([]byte{100, 101, 102, 103, 104}, 5)[:n]...)
				p.same(t)
			}
		}
	}
}

// P10.3, W4: a Put of no bytes changes nothing, in whichever form.
func TestPutOfNoBytes(t *testing.T) {
	for _, size := range sizes {
		for _, n := range amounts(size) {
			p := newPair(t, size)
			p.put(count(n)...)
			p.put()
			p.put(nil...)
			p.put([]byte{}...)
			p.put(make([]byte, 0, 20)...)
			p.put(count(9)[4:4]...)
			p.same(t)
		}
	}
}

// P10.2: a byte is told as it came, whichever it is.
func TestEveryByte(t *testing.T) {
	for _, size := range []int{1, 255, 256, 1000} {
		p := newPair(t, size)
		for b := range 256 {
			p.put(byte(b))
			wantLast(t, p.w, 1, byte(b))
		}
		p.same(t)
	}
}

// P10.2: of the distances just those from 1 to as many bytes as it holds are in it, before it is full, when it is and behind that.
func TestDistancesAtTheEdge(t *testing.T) {
	for _, c := range []struct{ size, n, full int }{
		{1, 0, 0}, {1, 1, 1}, {1, 2, 1}, {2, 1, 1}, {2, 2, 2}, {2, 3, 2}, {10, 9, 9}, {10, 10, 10}, {10, 11, 10}, {10, 95, 10}, {1 << 31, 95, 95},
	} {
		p := newPair(t, c.size)
		p.put(count(c.n)...)
		wantCounts(t, p.w, c.size, c.full, c.n)
		for d := 1; d <= c.full; d++ {
			wantLast(t, p.w, d, count(c.n)[c.n-d])
		}
		for d := c.full + 1; d < c.n+20; d++ {
			wantNoLast(t, p.w, d)
		}
		for _, d := range []int{0, -1, -c.full, -c.size, c.size + 1, 2*c.size + 1, least, greatest, least + c.size, greatest - c.size} {
			wantNoLast(t, p.w, d)
		}
		p.same(t)
	}
}

// P10.2: asking changes nothing: one that is asked answers what one that is not asked does.
func TestAskingChangesNothing(t *testing.T) {
	for _, size := range smallSizes {
		r, q := rand.New(rand.NewSource(1021)), rand.New(rand.NewSource(1021))
		asked, silent := newPair(t, size), newPair(t, size)
		for range 100 {
			asked.chance(t, r)
			silent.chance(t, q)
			asked.same(t)
			asked.w.Fork()
		}
		silent.same(t)
		wantHeld(t, asked.w, silent.u.held()...)
	}
}
