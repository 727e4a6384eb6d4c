package block_test

import (
	"bytes"
	"math"
	"testing"

	"pith/api"
)

// P22.7: each dictionary that a header can tell, with limits one below, at and above it, and such as are none.
func TestTheLimit(t *testing.T) {
	row := []byte{1, 0, 2, 'a', 'b', 'c', 0}
	for i, dict := range dicts() {
		for _, l := range [][]api.Filter{{lzma(byte(i))}, {apart(3), lzma(byte(i))}} {
			for _, told := range []int{-1, 3} {
				header := headed(t, -1, told, 0, l...)
				b := laid(header, row, checkOf(1, []byte("abc")))
				for _, mem := range []int{dict, dict + 1, 2 * dict, math.MaxInt - 1, math.MaxInt} {
					wantDecoded(t, b, 1, mem, []byte("abc"), api.Record{Unpadded: len(header) + 11, Size: 3}, len(b))
				}
				for _, mem := range []int{dict - 1, dict - 2, dict / 2, 1, 0, -1, -dict, -1 << 32, math.MinInt} {
					wantFault(t, b, 1, mem, api.ErrMemLimit, 0)
				}
			}
		}
	}
}

// P22.7: blocks that Encode made: with each greater limit it is what it is with the dictionary, right or spoilt.
func TestGreaterLimits(t *testing.T) {
	for _, dict := range []int{4096, 4097, 6144, 6145, 1 << 20, 1<<20 + 1, api.MaxDict} {
		for _, kind := range kinds {
			c := with(kind, 1, 2)
			c.Dict = dict
			b, _ := made(t, text(500), c)
			least := dicts()[leastByte(dict)]
			spoilt := [][]byte{b, append(bytes.Clone(b), 1, 2, 3), b[:len(b)/2], b[:11], turned(b, 12, 1), turned(b, 5, 1), turned(b, 30, 8), turned(b, len(b)-1, 8)}
			for _, x := range spoilt {
				want := wantDecodedByWords(t, x, kind, least)
				for _, mem := range []int{least + 1, 2 * least, 1 << 40, math.MaxInt} {
					if a := decoded(x, kind, mem); !a.same(want) {
						t.Errorf("Decode(%s, %d, %d): %s; with the limit %d: %s", shown(x), kind, mem, a, least, want)
					}
				}
			}
			wantFault(t, b, kind, least-1, api.ErrMemLimit, 0)
		}
	}
}

// P22.7, P22.2: what is copied from beyond the dictionary that is told is refused, however great the limit.
func TestTheDictionaryIsTheOneThatIsTold(t *testing.T) {
	c := with(1, api.ModeGreedy, 0)
	c.Dict = 12288
	data := join(noise(6, 9000), noise(6, 9000))
	row, sum, _ := split(t, data, c)
	for i, dict := range dicts()[:8] {
		header := headed(t, -1, -1, 0, lzma(byte(i)))
		b := laid(header, row, sum)
		if dict < 9000 {
			wantFault(t, b, 1, math.MaxInt, api.ErrFormat, 12+6)
		} else {
			wantDecoded(t, b, 1, math.MaxInt, data, api.Record{Unpadded: 12 + len(row) + 4, Size: 18000}, len(b))
		}
	}
}
