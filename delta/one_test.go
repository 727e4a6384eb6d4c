package delta_test

import (
	"math/rand"
	"slices"
	"testing"
)

// unlike: the places in which two data of one length differ.
func unlike(a, b []byte) []int {
	l := []int{}
	for i := range a {
		if a[i] != b[i] {
			l = append(l, i)
		}
	}
	return l
}

// wantUnlike: b and the same with another byte at place have answers that differ just there and in these places behind it.
func wantUnlike(t *testing.T, w way, b []byte, d, place int, change byte, behind ...int) {
	t.Helper()
	other := slices.Clone(b)
	other[place] += change
	got := unlike(all(t, w, b, d), all(t, w, other, d))
	if want := append([]int{place}, behind...); !slices.Equal(got, want) {
		t.Fatalf("%s of %d bytes, distance %d, with the byte %d changed by %d: unlike at %v, want %v", w.name, len(b), d, place, change, got, want)
	}
}

// P19.4: of differences, written out: the first byte, the last, and those with and without one a distance behind.
func TestOneByteOfDifferences(t *testing.T) {
	w := ways[0]
	for _, b := range [][]byte{count(10), make([]byte, 10)} {
		for _, change := range []byte{1, 2, 127, 128, 255} {
			wantUnlike(t, w, b, 1, 0, change, 1)
			wantUnlike(t, w, b, 1, 8, change, 9)
			wantUnlike(t, w, b, 1, 9, change)
			wantUnlike(t, w, b, 3, 0, change, 3)
			wantUnlike(t, w, b, 3, 6, change, 9)
			wantUnlike(t, w, b, 3, 7, change)
			wantUnlike(t, w, b, 3, 9, change)
			wantUnlike(t, w, b, 9, 0, change, 9)
			wantUnlike(t, w, b, 9, 1, change)
			wantUnlike(t, w, b, 10, 0, change)
			wantUnlike(t, w, b, 256, 5, change)
		}
	}
}

// P19.4: of sums, written out.
func TestOneByteOfSums(t *testing.T) {
	w := ways[1]
	for _, b := range [][]byte{count(10), make([]byte, 10)} {
		for _, change := range []byte{1, 2, 127, 128, 255} {
			wantUnlike(t, w, b, 1, 0, change, 1, 2, 3, 4, 5, 6, 7, 8, 9)
			wantUnlike(t, w, b, 1, 7, change, 8, 9)
			wantUnlike(t, w, b, 1, 9, change)
			wantUnlike(t, w, b, 3, 0, change, 3, 6, 9)
			wantUnlike(t, w, b, 3, 2, change, 5, 8)
			wantUnlike(t, w, b, 3, 6, change, 9)
			wantUnlike(t, w, b, 3, 7, change)
			wantUnlike(t, w, b, 9, 0, change, 9)
			wantUnlike(t, w, b, 9, 1, change)
			wantUnlike(t, w, b, 10, 0, change)
			wantUnlike(t, w, b, 256, 5, change)
		}
	}
}

// behind: the places a multiple of d behind place, the nearest first, at most so many of them.
func behind(place, d, n, most int) []int {
	l := []int{}
	for i := place + d; i < n && len(l) < most; i += d {
		l = append(l, i)
	}
	return l
}

// P19.4: every place of data of several times the distance, about the edges of the distance and of the ring.
func TestOneByteInEveryPlace(t *testing.T) {
	r := rand.New(rand.NewSource(1941))
	for _, d := range []int{1, 2, 3, 7, 128, 254, 255, 256} {
		for _, n := range []int{1, 2, d - 1, d, d + 1, 2 * d, 2*d + 1, 3*d + 2, 600} {
			b := chanceBytes(r, n)
			for place := range n {
				change := byte(1 + r.Intn(255))
				wantUnlike(t, ways[0], b, d, place, change, behind(place, d, n, 1)...)
				wantUnlike(t, ways[1], b, d, place, change, behind(place, d, n, n)...)
			}
		}
	}
}

// P19.4: the first byte, the last, and those about the last distance, at every distance.
func TestOneByteAtEveryDistance(t *testing.T) {
	r := rand.New(rand.NewSource(1942))
	for d := 1; d <= 256; d++ {
		n := 2*d + 3
		b := chanceBytes(r, n)
		for _, place := range []int{0, 1, d - 1, d, n - d - 1, n - d, n - 1} {
			for _, change := range []byte{1, 128, 255} {
				wantUnlike(t, ways[0], b, d, place, change, behind(place, d, n, 1)...)
				wantUnlike(t, ways[1], b, d, place, change, behind(place, d, n, n)...)
			}
		}
	}
}

// P19.4: the change itself is to be seen: in differences once up and once down, in sums up each time.
func TestHowMuchTheyDiffer(t *testing.T) {
	b := count(50)
	for _, change := range []byte{1, 100, 128, 255} {
		other := slices.Clone(b)
		other[20] += change
		for _, w := range ways {
			was, is := all(t, w, b, 10), all(t, w, other, 10)
			if is[20]-was[20] != change || w.back && is[40]-was[40] != change {
				t.Errorf("%s: changed by %d, it differs by %d", w.name, change, is[20]-was[20])
			}
			if want := map[bool]byte{false: -change, true: change}[w.back]; is[30]-was[30] != want {
				t.Errorf("%s: changed by %d, a distance behind it differs by %d", w.name, change, is[30]-was[30])
			}
		}
	}
}
