package stream_test

import (
	"math"
	"testing"

	"pith/api"
	"pith/stream"
)

// P25.2, P3: files whose blocks tell the packed size, the plain one, both and none, with the least padding and more; chunks of all kinds; through a filter.
func TestToldSizes(t *testing.T) {
	row, data := allKinds(t)
	abc := []byte{1, 0, 2, 'a', 'b', 'c', 0}
	for _, pad := range []int{0, 1, 2, 100, 240} {
		for _, isPacked := range []bool{false, true} {
			for _, isPlain := range []bool{false, true} {
				told := func(is bool, n int) int {
					if is {
						return n
					}
					return -1
				}
				one := laid(headed(t, told(isPacked, len(row)), told(isPlain, len(data)), pad, lzma(0)), row, nil, len(data))
				two := laid(headed(t, told(isPlain, len(abc)), told(isPacked, 3), 0, apart(1), lzma(3)), abc, nil, 3)
				f := fileOf(0, two, one, two)
				sums := []byte{97, 97 + 98, 97 + 98 + 99 - 256}
				wantData(t, f, 12288, join(sums, data, sums))
				wantFault(t, f, 12287, stream.MemLimit, 12)
			}
		}
	}
}

// P25.2: sizes that are told wrong, in the second block: what goes beyond is told at its chunk's first byte, ahead of bytes that are missing; a row that ends earlier at its end.
func TestWrongToldSizes(t *testing.T) {
	row := []byte{1, 0, 2, 'a', 'b', 'c', 0}
	first := laid(headed(t, 7, 3, 0, lzma(0)), row, nil, 3)
	front := 12 + len(first.b)
	for _, c := range []struct{ packed, size, at int }{
		{6, -1, 18}, {5, -1, 12}, {1, -1, 12}, {8, -1, 18}, {9, -1, 18}, {math.MaxInt, -1, 18}, {-1, 2, 12}, {-1, 0, 12}, {-1, 4, 18}, {-1, math.MaxInt, 18}, {7, 4, 18}, {7, 2, 12}, {8, 3, 18}, {6, 3, 18}, {5, 3, 12}, {6, 2, 12}, {8, 4, 18},
	} {
		header := headed(t, c.packed, c.size, 0, lzma(0))
		second := laid(header, row, nil, 3)
		f := fileOf(0, first, second)
		at := front + c.at - 12 + len(header)
		wantFault(t, f, 4096, stream.Format, at)
		wantFault(t, f[:front+len(second.b)], 4096, stream.Format, at)
		wantByWords(t, f[:at+1], 4096)
	}
	f := fileOf(0, first, laid(headed(t, 5, -1, 0, lzma(0)), row, nil, 3))
	for n := front + 15; n < len(f); n++ {
		wantFault(t, f[:n], 4096, stream.Format, front+12)
	}
	for n := front + 13; n < front+15; n++ {
		wantFault(t, f[:n], 4096, stream.Truncated, front+12)
	}
}

// P25.2: filters that no block is read through, with the right sum, in the first block and in the second.
func TestOtherFilters(t *testing.T) {
	row := []byte{1, 0, 2, 'a', 'b', 'c', 0}
	first := laid(headed(t, -1, -1, 0, lzma(0)), row, nil, 3)
	for _, l := range [][]api.Filter{
		{lzma(41)}, {lzma(255)}, {filter(33)}, {filter(33, 0, 0)}, {apart(1)}, {filter(4)}, {filter(0)}, {filter(1<<63-1, 0)},
		{lzma(0), lzma(0)}, {lzma(0), apart(1)}, {apart(1), lzma(41)}, {filter(3), lzma(0)}, {filter(4), lzma(0)}, {apart(1), apart(1), lzma(0)}, {apart(1), apart(1), apart(1), lzma(0)},
	} {
		other := laid(headed(t, -1, -1, 0, l...), row, nil, 3)
		for _, mem := range []int{-1, 0, 4096, math.MaxInt} {
			wantFault(t, fileOf(0, other, first), mem, stream.Unsupported, 12)
			if mem >= 4096 {
				wantFault(t, fileOf(0, first, other), mem, stream.Unsupported, 12+len(first.b))
			}
		}
	}
}

// P25.2, P3: blocks without data, also among others; Encode makes none.
func TestBlocksWithoutData(t *testing.T) {
	for _, kind := range kinds {
		none, some := cut(t, nil, with(kind, 0, 0, 9)), cut(t, text(9), with(kind, 0, 0, 9))
		wantData(t, fileOf(kind, none), 4096, nil)
		wantFault(t, fileOf(kind, none), 4095, stream.MemLimit, 12)
		wantData(t, fileOf(kind, none, none, some, none, some, none), 4096, join(text(9), text(9)))
	}
}

// P25.2, P3: unlike blocks in one file: through a filter and without, of each mode.
func TestUnlikeBlocks(t *testing.T) {
	for _, kind := range kinds {
		var l []piece
		var data []byte
		for i, c := range shapes(1000) {
			c.Check = kind
			b := text(20 + 7*i)
			l, data = append(l, cut(t, b, c)), append(data, b...)
		}
		wantData(t, fileOf(kind, l...), 4096, data)
	}
}
