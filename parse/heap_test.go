package parse_test

import (
	"math/rand"
	"slices"
	"testing"

	"pith/parse"
)

// pushed: a heap, and beside it what must be in it.
type pushed struct {
	h   parse.Heap
	all [][2]int
}

func byPrice(a, b [2]int) int { return slices.Compare(a[:], b[:]) }

func (u *pushed) push(t *testing.T, price, place int) {
	t.Helper()
	u.h.Push(price, place)
	u.all = append(u.all, [2]int{price, place})
	u.wantLen(t)
}

func (u *pushed) wantLen(t *testing.T) {
	t.Helper()
	if u.h.Len() != len(u.all) {
		t.Fatalf("Len is %d, want %d", u.h.Len(), len(u.all))
	}
}

// pop: the least pair, or none.
func (u *pushed) pop(t *testing.T) {
	t.Helper()
	want, wantOK := [2]int{}, len(u.all) > 0
	if wantOK {
		want = slices.MinFunc(u.all, byPrice)
		at := slices.Index(u.all, want)
		u.all = slices.Delete(u.all, at, at+1)
	}
	price, place, ok := u.h.Pop()
	if price != want[0] || place != want[1] || ok != wantOK {
		t.Fatalf("Pop: %d, %d, %v; want %v, %v", price, place, ok, want, wantOK)
	}
	u.wantLen(t)
}

// drain: till none is left, and twice more.
func (u *pushed) drain(t *testing.T) {
	t.Helper()
	for range len(u.all) + 2 {
		u.pop(t)
	}
}

// P16.9: the chapter's example.
func TestHeapExample(t *testing.T) {
	var h parse.Heap
	for _, p := range [][2]int{{5, 1}, {3, 9}, {3, 2}, {5, 1}} {
		h.Push(p[0], p[1])
	}
	for _, want := range [][2]int{{3, 2}, {3, 9}, {5, 1}, {5, 1}} {
		if price, place, ok := h.Pop(); price != want[0] || place != want[1] || !ok {
			t.Errorf("Pop: %d, %d, %v; want %v", price, place, ok, want)
		}
	}
	if price, place, ok := h.Pop(); price != 0 || place != 0 || ok {
		t.Errorf("Pop of none: %d, %d, %v", price, place, ok)
	}
}

// P16.9: the zero heap has no pairs; popped empty, once and often, before and behind pushes.
func TestEmptyHeaps(t *testing.T) {
	u := &pushed{}
	u.wantLen(t)
	u.drain(t)
	for k := range 5 {
		for i := range k {
			u.push(t, i, -i)
		}
		u.drain(t)
	}
	h := new(parse.Heap)
	if price, place, ok := h.Pop(); price != 0 || place != 0 || ok || h.Len() != 0 {
		t.Errorf("a new one: %d, %d, %v, Len %d", price, place, ok, h.Len())
	}
}

// P16.9: all orders of six pairs, with equal prices, equal places and equal pairs among them.
func TestAllOrdersOfSix(t *testing.T) {
	for _, six := range [][][2]int{
		{{1, 1}, {2, 2}, {3, 3}, {4, 4}, {5, 5}, {6, 6}},
		{{1, 3}, {1, 2}, {1, 1}, {2, 3}, {2, 2}, {2, 1}},
		{{0, 0}, {0, 0}, {0, 0}, {-1, 5}, {0, -5}, {0, 0}},
		{{7, 1}, {7, 1}, {6, 2}, {6, 2}, {5, 3}, {5, 3}},
	} {
		orders(six, 0, func(row [][2]int) {
			u := &pushed{}
			for _, p := range row {
				u.push(t, p[0], p[1])
			}
			u.drain(t)
		})
	}
}

// orders: all orders of the row from number k on.
func orders(row [][2]int, k int, each func([][2]int)) {
	if k == len(row) {
		each(row)
	}
	for i := k; i < len(row); i++ {
		row[k], row[i] = row[i], row[k]
		orders(row, k+1, each)
		row[k], row[i] = row[i], row[k]
	}
}

// P16.9: prices and places below 0 and at the bounds of int.
func TestPairsAtTheBounds(t *testing.T) {
	edges := []int{least, least + 1, -1 << 62, -1 << 32, -2, -1, 0, 1, 2, 1 << 32, 1 << 62, greatest - 1, greatest}
	u := &pushed{}
	for _, price := range edges {
		for _, place := range edges {
			u.push(t, price, place)
		}
	}
	u.drain(t)
	for _, place := range slices.Backward(edges) {
		for _, price := range slices.Backward(edges) {
			u.push(t, price, place)
			u.push(t, price, place)
		}
	}
	u.drain(t)
}

// P16.9: pushes between pops, of few prices and places, so that many are equal.
func TestPushesBetweenPops(t *testing.T) {
	r := rand.New(rand.NewSource(1691))
	for _, few := range []int{1, 2, 5, 1000} {
		u := &pushed{}
		for range 3000 {
			if r.Intn(2) == 0 {
				u.push(t, r.Intn(few)-few/2, r.Intn(few)-few/2)
			} else {
				u.pop(t)
			}
		}
		u.drain(t)
	}
}

// P16.9: many pairs, rising, falling, equal and of chance, come off in their order.
func TestManyPairs(t *testing.T) {
	const n = 100000
	r := rand.New(rand.NewSource(1692))
	for _, price := range []func(i int) int{
		func(i int) int { return i },
		func(i int) int { return -i },
		func(int) int { return 7 },
		func(int) int { return r.Intn(1000) },
		func(int) int { return int(r.Uint64()) },
	} {
		var h parse.Heap
		all := [][2]int{}
		for i := range n {
			p := [2]int{price(i), r.Intn(n)}
			all = append(all, p)
			h.Push(p[0], p[1])
		}
		slices.SortFunc(all, byPrice)
		for i, want := range all {
			if p, at, ok := h.Pop(); p != want[0] || at != want[1] || !ok || h.Len() != n-1-i {
				t.Fatalf("Pop number %d: %d, %d, %v; want %v", i, p, at, ok, want)
			}
		}
	}
}

// P16.9, P16.10: two heaps in turns know nothing of one another.
func TestHeapsAreApart(t *testing.T) {
	r := rand.New(rand.NewSource(1693))
	one, other := &pushed{}, &pushed{}
	for range 3000 {
		u := []*pushed{one, other}[r.Intn(2)]
		if r.Intn(5) < 3 {
			u.push(t, r.Intn(50), r.Intn(50))
		} else {
			u.pop(t)
		}
		one.wantLen(t)
		other.wantLen(t)
	}
	one.drain(t)
	other.drain(t)
}

// P16.9: Len changes nothing, and takes no memory; nor does a Pop.
func TestHeapTakesLittleMemory(t *testing.T) {
	var h parse.Heap
	for i := range 1000 {
		h.Push(i%7, i)
	}
	total := 0
	if n := testing.AllocsPerRun(100, func() { p, at, _ := h.Pop(); total += p + at + h.Len() }); n > 0 {
		t.Errorf("Pop and Len take memory %v times", n)
	}
}
