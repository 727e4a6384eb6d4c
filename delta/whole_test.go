package delta_test

import (
	"bytes"
	"math/rand"
	"testing"

	"pith/api"
)

// P19.1: the chapter's examples, there and back.
func TestExamples(t *testing.T) {
	sevens := bytes.Repeat([]byte{7}, 300)
	for _, c := range []struct {
		plain []byte
		dist  int
		told  []byte
	}{
		{[]byte{3, 5, 4, 4}, 1, []byte{3, 2, 255, 0}},
		{[]byte{3, 5, 4, 4}, 2, []byte{3, 5, 1, 255}},
		{sevens, 256, append(bytes.Repeat([]byte{7}, 256), make([]byte, 44)...)},
	} {
		wantWhole(t, ways[0], c.plain, c.dist, c.told)
		wantWhole(t, ways[1], c.told, c.dist, c.plain)
	}
}

// P19.1: differences below 0 and sums beyond 255 go round, written out.
func TestGoneRound(t *testing.T) {
	for _, c := range []struct {
		way  way
		b    []byte
		dist int
		want []byte
	}{
		{ways[0], []byte{0, 1, 0, 255, 0, 128, 127}, 1, []byte{0, 1, 255, 255, 1, 128, 255}},
		{ways[0], []byte{255, 0, 0, 255, 1}, 2, []byte{255, 0, 1, 255, 1}},
		{ways[0], []byte{200, 100, 50, 25, 12}, 3, []byte{200, 100, 50, 81, 168}},
		{ways[0], []byte{255, 254, 253}, 3, []byte{255, 254, 253}},
		{ways[1], []byte{200, 100, 255, 1, 255, 128, 128}, 1, []byte{200, 44, 43, 44, 43, 171, 43}},
		{ways[1], []byte{255, 255, 255, 255, 255}, 1, []byte{255, 254, 253, 252, 251}},
		{ways[1], []byte{255, 1, 1, 255, 255, 0}, 2, []byte{255, 1, 0, 0, 255, 0}},
		{ways[1], []byte{128, 130, 140, 128, 130, 140, 128}, 3, []byte{128, 130, 140, 0, 4, 24, 128}},
	} {
		wantWhole(t, c.way, c.b, c.dist, c.want)
	}
}

// P19.1: every byte behind every byte, next to it and the greatest distance away.
func TestEveryByteBehindEvery(t *testing.T) {
	far := make([]byte, 257)
	for a := range 256 {
		for b := range 256 {
			difference, sum := byte((256+b-a)%256), byte((a+b)%256)
			near := []byte{byte(a), byte(b)}
			wantWhole(t, ways[0], near, 1, []byte{byte(a), difference})
			wantWhole(t, ways[1], near, 1, []byte{byte(a), sum})
			far[0], far[256] = byte(a), byte(b)
			for _, w := range ways {
				got := all(t, w, far, 256)
				if want := w.words(near, 1); got[0] != want[0] || got[256] != want[1] || !bytes.Equal(got[1:256], make([]byte, 255)) {
					t.Fatalf("%s: %d, and %d behind it by 256: %d, %d", w.name, a, b, got[0], got[256])
				}
			}
		}
	}
}

// P19.1: every distance, data of all lengths at the edges, by the words of the chapter.
func TestEveryDistance(t *testing.T) {
	r := rand.New(rand.NewSource(191))
	for d := 1; d <= 256; d++ {
		for _, n := range lengths(d) {
			for _, b := range samples(r, n) {
				for _, w := range ways {
					wantWhole(t, w, b, d, w.words(b, d))
				}
			}
		}
	}
}

// P19.1: at the edges of the distance every length up to some times the distance.
func TestEveryLength(t *testing.T) {
	r := rand.New(rand.NewSource(192))
	for _, d := range edges {
		for n := range 1100 {
			b := chanceBytes(r, n)
			for _, w := range ways {
				wantWhole(t, w, b, d, w.words(b, d))
			}
		}
	}
}

// P19.1: data that are not longer than the distance have no byte a distance behind another: they stay as they are.
func TestNoLongerThanTheDistance(t *testing.T) {
	for d := 1; d <= 256; d++ {
		for _, n := range []int{0, 1, d - 1, d} {
			b := count(n)[:min(n, d)]
			for _, w := range ways {
				wantWhole(t, w, b, d, b)
			}
		}
	}
}

// P19.1: of no bytes there are none, nil or empty alike.
func TestNoBytes(t *testing.T) {
	for d := 1; d <= 256; d++ {
		for _, w := range ways {
			wantWhole(t, w, nil, d, nil)
			wantWhole(t, w, []byte{}, d, nil)
		}
	}
}

// P19.1: what is no distance is refused, whatever the bytes, and none are answered.
func TestNoDistance(t *testing.T) {
	for _, d := range noDistances {
		for _, b := range [][]byte{nil, {}, {0}, {9}, count(256), count(257), count(1000)} {
			for _, w := range ways {
				if got, errno := w.whole(b, d); len(got) != 0 || errno != api.ErrConfig {
					t.Errorf("%s of %d bytes, distance %d: %d bytes, error %d; want ErrConfig", w.name, len(b), d, len(got), errno)
				}
			}
		}
	}
}

// P19.1: from where on, and up to where, a number is a distance.
func TestEdgesOfTheDistance(t *testing.T) {
	for _, c := range []struct {
		dist int
		want api.Errno
	}{{-1, api.ErrConfig}, {0, api.ErrConfig}, {1, api.OK}, {255, api.OK}, {256, api.OK}, {257, api.ErrConfig}} {
		for _, w := range ways {
			got, errno := w.whole([]byte{1, 2}, c.dist)
			if errno != c.want || errno == api.OK && len(got) != 2 || errno != api.OK && len(got) != 0 {
				t.Errorf("%s, distance %d: %s, error %d, want %d", w.name, c.dist, shown(got), errno, c.want)
			}
		}
	}
}
