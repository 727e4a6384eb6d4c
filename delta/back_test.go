package delta_test

import (
	"bytes"
	"math/rand"
	"testing"
)

// P19.3: Decode of Encode, and Encode of Decode, for every distance.
func TestThereAndBack(t *testing.T) {
	r := rand.New(rand.NewSource(1931))
	for d := 1; d <= 256; d++ {
		for _, n := range lengths(d) {
			for _, b := range samples(r, n) {
				wantWhole(t, ways[1], all(t, ways[0], b, d), d, b)
				wantWhole(t, ways[0], all(t, ways[1], b, d), d, b)
			}
		}
	}
}

// P19.3: every byte string of up to two bytes, and of three from a few bytes.
func TestThereAndBackOfShortData(t *testing.T) {
	few := []byte{0, 1, 2, 127, 128, 129, 254, 255}
	short := [][]byte{nil}
	for a := range 256 {
		short = append(short, []byte{byte(a)})
		for b := range 256 {
			short = append(short, []byte{byte(a), byte(b)})
		}
	}
	for _, a := range few {
		for _, b := range few {
			for _, c := range few {
				short = append(short, []byte{a, b, c})
			}
		}
	}
	for _, b := range short {
		for _, d := range []int{1, 2, 3, 256} {
			wantWhole(t, ways[1], all(t, ways[0], b, d), d, b)
			wantWhole(t, ways[0], all(t, ways[1], b, d), d, b)
		}
	}
}

// P19.2, P19.3: a filter back behind one there, and one there behind one back, each piece at once.
func TestFiltersThereAndBack(t *testing.T) {
	r := rand.New(rand.NewSource(1932))
	for d := 1; d <= 256; d++ {
		for _, w := range ways {
			first, second := made(t, d, w.back), made(t, d, !w.back)
			for range 12 {
				b := chanceBytes(r, []int{0, 1, r.Intn(10), r.Intn(300), 255, 256, 257}[r.Intn(7)])
				wantNext(t, second, first.Next(b), b)
			}
		}
	}
}

// P19.2, P19.3: the way back may cut elsewhere.
func TestThereAndBackCutElsewhere(t *testing.T) {
	r := rand.New(rand.NewSource(1933))
	for _, d := range []int{1, 2, 3, 64, 255, 256} {
		b := chanceBytes(r, 1500)
		for _, w := range ways {
			there := inPieces(t, made(t, d, w.back), b, 1, 256, 256, 900)
			if back := inPieces(t, made(t, d, !w.back), there, 0, 255, 700, 1499); !bytes.Equal(back, b) {
				t.Fatalf("%s, distance %d, and back: %s, want %s", w.name, d, shown(back), shown(b))
			}
		}
	}
}

// P19.3: what another distance takes back is other data, as soon as there is a byte a distance behind another.
func TestBackByAnotherDistance(t *testing.T) {
	b := count(600)
	for _, d := range edges {
		for _, other := range edges {
			got := all(t, ways[1], all(t, ways[0], b, d), other)
			if bytes.Equal(got, b) != (d == other) {
				t.Errorf("distance %d, and back by %d: the same is %v", d, other, d != other)
			}
		}
	}
}
