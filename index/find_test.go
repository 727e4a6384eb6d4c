package index_test

import (
	"math"
	"math/rand"
	"slices"
	"testing"

	"pith/api"
	"pith/index"
)

// wantFind: this number.
func wantFind(t *testing.T, off int, p []api.Place, want int) {
	t.Helper()
	if i := index.Find(off, p...); i != want {
		t.Errorf("Find(%d) of %d places %v: %d, want %d", off, len(p), p[:min(8, len(p))], i, want)
	}
}

// findByWords: every place in whose plain bytes off lies.
func findByWords(off int, p []api.Place) []int {
	var all []int
	for i, x := range p {
		if x.Start <= off && off-x.Start < x.Record.Size {
			all = append(all, i)
		}
	}
	return all
}

// wantFindByWords: what the words say; at most one place has off.
func wantFindByWords(t *testing.T, off int, p []api.Place) {
	t.Helper()
	switch all := findByWords(off, p); len(all) {
	case 0:
		wantFind(t, off, p, -1)
	case 1:
		wantFind(t, off, p, all[0])
	default:
		t.Errorf("the byte at %d lies in the places %v", off, all)
	}
}

// P23.4: the chapter's examples.
func TestFindOfExamples(t *testing.T) {
	p := placed(t, 12, list(19, 3, 20, 0, 21, 5))
	for _, c := range [][2]int{{0, 0}, {2, 0}, {3, 2}, {7, 2}, {8, -1}, {-1, -1}} {
		wantFind(t, c[0], p, c[1])
	}
}

// P23.4: ahead of the first plain byte, at each block's first and last one, and behind the last.
func TestFindAtTheEdges(t *testing.T) {
	for _, l := range rightLists() {
		p := placed(t, 0, l)
		all := 0
		for i, r := range l {
			if len(l) > 300 && i%97 != 0 && i != len(l)-1 {
				all += r.Size
				continue
			}
			if r.Size > 0 {
				wantFind(t, all, p, i)
				wantFind(t, all+(r.Size-1)/2, p, i)
				wantFind(t, all+r.Size-1, p, i)
			}
			all += r.Size
			if all < greatest {
				wantFindByWords(t, all, p)
			}
		}
		for _, off := range []int{-1, -2, -all, math.MinInt, math.MinInt + 1, all, greatest} {
			if off < 0 || off >= all {
				wantFind(t, off, p, -1)
			}
		}
	}
	wantFind(t, greatest-1, placed(t, 0, list(5, greatest)), 0)
	wantFind(t, greatest, placed(t, 0, list(5, greatest)), -1)
	wantFind(t, greatest-1, placed(t, 0, list(5, greatest-1, 5, 1, 5, 0)), 1)
}

// P23.4: no places, and such as have no plain bytes: they are never found.
func TestFindAmongPlacesWithoutBytes(t *testing.T) {
	for _, off := range []int{math.MinInt, -1, 0, 1, greatest} {
		wantFind(t, off, nil, -1)
		for n := range 6 {
			wantFind(t, off, placed(t, 12, slices.Repeat(list(8, 0), n)), -1)
		}
	}
	for ahead := range 5 {
		for behind := range 5 {
			l := slices.Concat(slices.Repeat(list(8, 0), ahead), list(8, 2), slices.Repeat(list(8, 0), behind), list(8, 1), slices.Repeat(list(8, 0), behind))
			p := placed(t, 12, l)
			for off, want := range map[int]int{-1: -1, 0: ahead, 1: ahead, 2: ahead + behind + 1, 3: -1, 4: -1} {
				wantFind(t, off, p, want)
			}
		}
	}
}

// P23.4, P23.7: the places fill a list without a gap: each plain byte is found in just one, in their order.
func TestPlacesAreWithoutAGap(t *testing.T) {
	r := rand.New(rand.NewSource(234))
	for n := range 60 {
		var l []api.Record
		for range n {
			l = append(l, rec(5+r.Intn(90), r.Intn(4)*r.Intn(9)))
		}
		p, _, all, _ := index.Places(r.Intn(30), l...)
		last := 0
		for off := range all {
			if in := findByWords(off, p); len(in) != 1 || in[0] < last {
				t.Fatalf("the byte at %d of %d lies in the places %v", off, all, in)
			} else {
				last = in[0]
				wantFind(t, off, p, last)
			}
		}
		for _, off := range []int{-2, -1, all, all + 1} {
			wantFindByWords(t, off, p)
			wantFind(t, off, p, -1)
		}
	}
}

// P23.4: in lists that no call has answered the answer is from -1 to one less than their length.
func TestFindInOtherLists(t *testing.T) {
	r := rand.New(rand.NewSource(235))
	odd := []int{math.MinInt, math.MinInt + 1, -1 << 32, -5, -1, 0, 0, 1, 3, 5, 1 << 32, 1 << 62, greatest - 1, greatest}
	pick := func() int { return odd[r.Intn(len(odd))] }
	for range 50000 {
		var p []api.Place
		for range r.Intn(7) {
			p = append(p, api.Place{Off: pick(), Record: rec(pick(), pick()), Start: pick()})
		}
		off := pick()
		if i := index.Find(off, p...); i < -1 || i >= len(p) {
			t.Fatalf("Find(%d) of %v: %d", off, p, i)
		}
	}
	// Places turned round, or more than once.
	p := placed(t, 12, many(10, 50))
	slices.Reverse(p)
	for _, l := range [][]api.Place{p, append(p, p...)} {
		for _, x := range p {
			if i := index.Find(x.Start, l...); i < -1 || i >= len(l) {
				t.Fatalf("Find(%d): %d of %d", x.Start, i, len(l))
			}
		}
	}
}
