package delta_test

import (
	"bytes"
	"math/rand"
	"slices"
	"testing"

	"pith/api"
	"pith/delta"
)

// P19.2: the chapter's examples.
func TestPiecesOfTheExamples(t *testing.T) {
	f, g := made(t, 3, false), made(t, 3, true)
	wantNext(t, f, []byte{1, 2}, []byte{1, 2})
	wantNext(t, f, nil, nil)
	wantNext(t, f, []byte{3, 4, 5}, []byte{3, 3, 3})
	wantNext(t, g, []byte{1, 1}, []byte{1, 1})
	wantNext(t, g, []byte{1, 1, 1}, []byte{1, 2, 2})
}

// P19.2: a piece that goes beyond what came so far, below 0 and above 255, written out.
func TestPiecesByHand(t *testing.T) {
	f := made(t, 2, false)
	wantNext(t, f, []byte{250}, []byte{250})
	wantNext(t, f, []byte{10, 4}, []byte{10, 10})
	wantNext(t, f, []byte{9}, []byte{255})
	wantNext(t, f, []byte{}, nil)
	wantNext(t, f, []byte{3, 9, 3}, []byte{255, 0, 0})
	g := made(t, 2, true)
	wantNext(t, g, []byte{250, 10}, []byte{250, 10})
	wantNext(t, g, []byte{10}, []byte{4})
	wantNext(t, g, nil, nil)
	wantNext(t, g, []byte{255, 255, 0, 0}, []byte{9, 3, 9, 3})
}

// P19.2: what is no distance is refused, in both directions, with no filter.
func TestNoFilter(t *testing.T) {
	for _, d := range noDistances {
		for _, w := range ways {
			if f, errno := delta.New(d, w.back); f != nil || errno != api.ErrConfig {
				t.Errorf("New(%d, %v): a filter %v, error %d; want ErrConfig", d, w.back, f != nil, errno)
			}
		}
	}
}

// P19.2: from where on, and up to where, a number is a distance.
func TestEdgesOfAFiltersDistance(t *testing.T) {
	for _, c := range []struct {
		dist int
		want api.Errno
	}{{-1, api.ErrConfig}, {0, api.ErrConfig}, {1, api.OK}, {255, api.OK}, {256, api.OK}, {257, api.ErrConfig}} {
		for _, w := range ways {
			if f, errno := delta.New(c.dist, w.back); errno != c.want || (f != nil) != (c.want == api.OK) {
				t.Errorf("New(%d, %v): a filter %v, error %d, want %d", c.dist, w.back, f != nil, errno, c.want)
			}
		}
	}
}

// P19.2: one piece that is all: as Encode and Decode of it, at every distance.
func TestOnePiece(t *testing.T) {
	r := rand.New(rand.NewSource(193))
	for d := 1; d <= 256; d++ {
		for _, n := range lengths(d) {
			b := chanceBytes(r, n)
			for _, w := range ways {
				wantNext(t, made(t, d, w.back), b, all(t, w, b, d))
				wantNext(t, made(t, d, w.back), b, w.words(b, d))
			}
		}
	}
}

// P19.2: cut in two, in every place, the front and the end among them.
func TestCutInEveryPlace(t *testing.T) {
	r := rand.New(rand.NewSource(194))
	for _, d := range edges {
		b := chanceBytes(r, 1100)
		for _, w := range ways {
			want := w.words(b, d)
			for cut := range len(b) + 1 {
				if got := inPieces(t, made(t, d, w.back), b, cut); !bytes.Equal(got, want) {
					t.Fatalf("%s, distance %d: cut at %d: %s, want %s", w.name, d, cut, shown(got), shown(want))
				}
			}
		}
	}
}

// P19.2: cut in three, in every two places, also in one place twice: a piece of no bytes between.
func TestCutInEveryTwoPlaces(t *testing.T) {
	r := rand.New(rand.NewSource(195))
	for _, d := range []int{1, 2, 3, 5, 8, 9, 255, 256} {
		n := min(3*d+4, 40)
		if d > 100 {
			n = d + 20
		}
		b := chanceBytes(r, n)
		for _, w := range ways {
			want := w.words(b, d)
			for first := range n + 1 {
				for second := first; second <= n; second++ {
					if got := inPieces(t, made(t, d, w.back), b, first, second); !bytes.Equal(got, want) {
						t.Fatalf("%s, distance %d: cut at %d and %d: %s, want %s", w.name, d, first, second, shown(got), shown(want))
					}
				}
			}
		}
	}
}

// sizes: of pieces, those about the ring's length among them.
var sizes = []int{0, 1, 2, 3, 100, 254, 255, 256, 257, 258, 511, 512, 513, 1000}

// P19.2: pieces all of one size, with pieces of no bytes between them.
func TestPiecesOfOneSize(t *testing.T) {
	r := rand.New(rand.NewSource(196))
	for _, d := range []int{1, 2, 3, 100, 128, 254, 255, 256} {
		b := chanceBytes(r, 3100)
		for _, w := range ways {
			want := w.words(b, d)
			for _, size := range sizes[1:] {
				f := made(t, d, w.back)
				from := 0
				for piece := range slices.Chunk(b, size) {
					wantNext(t, f, nil, nil)
					wantNext(t, f, piece, want[from:from+len(piece)])
					from += len(piece)
				}
			}
		}
	}
}

// P19.2: a piece of each size behind a piece of each size, and a third one.
func TestPiecesOfAllSizes(t *testing.T) {
	r := rand.New(rand.NewSource(197))
	b := chanceBytes(r, 2300)
	for _, d := range edges {
		for _, w := range ways {
			want := w.words(b, d)
			for _, first := range sizes {
				for _, second := range sizes {
					if got := inPieces(t, made(t, d, w.back), b, first, first+second); !bytes.Equal(got, want) {
						t.Fatalf("%s, distance %d: pieces of %d, of %d, and the rest: %s, want %s", w.name, d, first, second, shown(got), shown(want))
					}
				}
			}
		}
	}
}

// P19.2: pieces by chance, at every distance.
func TestPiecesByChance(t *testing.T) {
	r := rand.New(rand.NewSource(198))
	for d := 1; d <= 256; d++ {
		for range 10 {
			b := chanceBytes(r, r.Intn(2500))
			cuts := make([]int, r.Intn(12))
			for i := range cuts {
				cuts[i] = r.Intn(len(b) + 1)
			}
			slices.Sort(cuts)
			for _, w := range ways {
				if got, want := inPieces(t, made(t, d, w.back), b, cuts...), w.words(b, d); !bytes.Equal(got, want) {
					t.Fatalf("%s, distance %d: cut at %v: %s, want %s", w.name, d, cuts, shown(got), shown(want))
				}
			}
		}
	}
}

// P19.2: a filter is at the front when it is made, whatever others of its kind have met, and refused calls.
func TestAtTheFront(t *testing.T) {
	for _, d := range edges {
		for _, w := range ways {
			b := count(700)
			for range 3 {
				f := made(t, d, w.back)
				delta.New(0, w.back)
				w.whole(b, 257)
				wantNext(t, f, b, w.words(b, d))
			}
		}
	}
}
