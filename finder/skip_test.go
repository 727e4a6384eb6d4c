package finder_test

import (
	"math/rand"
	"strings"
	"testing"

	"pith/api"
)

// P11.2: the place goes on by as many bytes as are skipped, up to the data's length.
func TestSkip(t *testing.T) {
	for _, data := range texts() {
		for _, n := range []int{0, 1, 2, 3, 7, 32, 100, len(data)} {
			f := made(t, data, 4096)
			for f.Pos()+n <= len(data) && n > 0 {
				skip(t, f, n)
				skip(t, f, 0)
			}
			rest := len(data) - f.Pos()
			wantNoSkip(t, f, rest+1)
			skip(t, f, rest)
			if f.Pos() != len(data) {
				t.Errorf("at %d of %d", f.Pos(), len(data))
			}
			wantNoSkip(t, f, 1)
			skip(t, f, 0)
		}
	}
}

// P11.2, W5: what is below 0 or above what is left is refused, and nothing has changed: neither the place, nor what is found there and further on.
func TestSkipRefused(t *testing.T) {
	for _, data := range texts() {
		for _, dict := range []int{1, 5, 4096, api.MaxTold} {
			p := newPair(t, data, dict)
			for {
				left := p.left()
				for _, n := range []int{-1, -2, -3, -p.u.pos, -p.u.pos - 1, -1 << 31, -1 << 32, least, least + 1, left + 1, left + 2, left + 3, len(data) + 1, 1 << 31, 1 << 32, 1<<32 + 1, 1 << 62, greatest - p.u.pos, greatest - 1, greatest} {
					if n < 0 || n > left {
						wantNoSkip(t, p.f, n)
					}
				}
				p.same(t, 3, 273)
				if left == 0 {
					break
				}
				p.skip(t, min(left, 17))
			}
		}
	}
}

// P11.7: the same place reached by one Skip, byte by byte, and by pieces of any sizes: the same is found there.
func TestHowItCameIsNotSeen(t *testing.T) {
	r := rand.New(rand.NewSource(1172))
	for _, data := range texts() {
		for _, dict := range []int{1, 3, 6, 33, 100, 4096, api.MaxTold} {
			for range 10 {
				pos := r.Intn(len(data) + 1)
				once := newPair(t, data, dict)
				once.skip(t, pos)
				once.same(t, mosts...)
				single := newPair(t, data, dict)
				for range pos {
					single.skip(t, 1)
				}
				single.same(t, mosts...)
				pieces := newPair(t, data, dict)
				for pieces.u.pos < pos {
					pieces.skip(t, r.Intn(pos-pieces.u.pos+1))
				}
				pieces.same(t, mosts...)
			}
		}
	}
}

// P11.7: great steps and small ones in turns: a Skip that is longer than the dictionary leaves nothing out that is still within it, and brings nothing in that is not.
func TestGreatStepsAndSmallOnes(t *testing.T) {
	data := strings.Repeat("abcdab", 100)
	for _, dict := range []int{1, 2, 5, 6, 7, 12, 13, 40, 200, 1000} {
		for _, great := range []int{1, dict - 1, dict, dict + 1, dict + 2, 2 * dict} {
			p := newPair(t, data, dict)
			for p.left() > 0 {
				p.skip(t, min(great, p.left()))
				p.same(t, 273)
				p.skip(t, min(1, p.left()))
				p.same(t, 273)
			}
		}
	}
}
