package block_test

import (
	"math"
	"testing"

	"pith/api"
)

// split: a block's row, and its check; and the filters of its configuration.
func split(t *testing.T, data []byte, c api.Config) (row, sum []byte, l []api.Filter) {
	t.Helper()
	b, r := made(t, data, c)
	sum = checkOf(c.Check, data)
	l = []api.Filter{lzma(leastByte(c.Dict))}
	if c.Delta > 0 {
		l = []api.Filter{apart(c.Delta), l[0]}
	}
	return b[12 : r.Unpadded-len(sum)], sum, l
}

// someBlocks: a configuration and data, of each kind of a check, each mode, with and without a Delta filter.
func someBlocks(f func(data []byte, c api.Config)) {
	for _, c := range shapes() {
		if c.Delta == 1 {
			continue
		}
		for _, data := range [][]byte{nil, {9}, []byte("abc"), text(100), slope(200), noise(3, 60)} {
			f(data, c)
		}
	}
}

// P22.4: more padding, and sizes that are told right, each, both and none.
func TestToldSizes(t *testing.T) {
	someBlocks(func(data []byte, c api.Config) {
		row, sum, l := split(t, data, c)
		for _, pad := range []int{0, 1, 2, 100, 240} {
			for _, told := range [][2]int{{-1, -1}, {len(row), -1}, {-1, len(data)}, {len(row), len(data)}} {
				header := headed(t, told[0], told[1], pad, l...)
				b := laid(header, row, sum)
				r := api.Record{Unpadded: len(header) + len(row) + len(sum), Size: len(data)}
				wantDecoded(t, b, c.Check, 4096, data, r, len(b))
				wantDecoded(t, append(b, 0, 9), c.Check, 4096, data, r, len(b))
			}
		}
	})
}

// wantWrongSizes: ErrFormat, at the place that the words say.
func wantWrongSizes(t *testing.T, packed, size, pad int, row, sum []byte, kind int, l []api.Filter) {
	t.Helper()
	b := laid(headed(t, packed, size, pad, l...), row, sum)
	for _, behind := range [][]byte{nil, {0, 0, 0, 0}, noise(4, 300)} {
		if a := wantDecodedByWords(t, join(b, behind), kind, 4096); a.errno != api.ErrFormat {
			t.Errorf("Decode(%s, %d), told %d, %d: %s", shown(b), kind, packed, size, a)
		}
	}
}

// P22.4: each size one less, one more, and far off, with the other one right, wrong and not told.
func TestWrongSizes(t *testing.T) {
	t.Parallel()
	someBlocks(func(data []byte, c api.Config) {
		row, sum, l := split(t, data, c)
		packed := []int{len(row), -1, len(row) - 1, len(row) + 1, 1, 2 * len(row), len(row) + 1<<40, math.MaxInt}
		plain := []int{len(data), -1, len(data) - 1, len(data) + 1, 0, 2*len(data) + 1, len(data) + 1<<40, math.MaxInt}
		isWrong := func(told, right int) bool { return told != -1 && told != right }
		for _, p := range packed {
			for _, s := range plain {
				// One less than none cannot be told.
				if p == 0 || s < -1 || !isWrong(p, len(row)) && !isWrong(s, len(data)) {
					continue
				}
				wantWrongSizes(t, p, s, 0, row, sum, c.Check, l)
				if c.Mode == api.ModeGreedy {
					wantWrongSizes(t, p, s, 1, row, sum, c.Check, l)
				}
			}
		}
	})
}

// P22.4, P22.2: the places, told one by one, of the chapter's block behind a header of twelve bytes: its row begins at 12, its end is at 18.
func TestWrongSizesOfTheExample(t *testing.T) {
	row := []byte{1, 0, 2, 'a', 'b', 'c', 0}
	for _, c := range []struct{ packed, size, at int }{
		{6, -1, 18}, {5, -1, 12}, {1, -1, 12}, {8, -1, 18}, {9, -1, 18}, {-1, 2, 12}, {-1, 0, 12}, {-1, 4, 18}, {7, 4, 18}, {7, 2, 12}, {8, 3, 18}, {6, 3, 18}, {5, 3, 12}, {6, 2, 12}, {8, 4, 18},
	} {
		wantFault(t, laid(headed(t, c.packed, c.size, 0, lzma(0)), row, nil), 0, 4096, api.ErrFormat, c.at)
		// Two words of padding more: all eight bytes further.
		wantFault(t, laid(headed(t, c.packed, c.size, 2, lzma(0)), row, nil), 0, 4096, api.ErrFormat, c.at+8)
	}
	wantDecoded(t, laid(headed(t, 7, 3, 2, lzma(0)), row, nil), 0, 4096, []byte("abc"), api.Record{Unpadded: 27, Size: 3}, 28)
	// What would go beyond is told ahead of what is not there.
	for n := 15; n < 20; n++ {
		wantFault(t, laid(headed(t, 5, -1, 0, lzma(0)), row, nil)[:n], 0, 4096, api.ErrFormat, 12)
	}
	for n := 13; n < 15; n++ {
		wantFault(t, laid(headed(t, 5, -1, 0, lzma(0)), row, nil)[:n], 0, 4096, api.ErrTruncated, 12)
	}
}

// P22.4: another chain with the same row: the sizes are those of the row, whatever the filters make of it.
func TestToldSizesOfOtherChains(t *testing.T) {
	data := text(400)
	row, _, _ := split(t, data, with(0, 1, 0))
	for _, l := range [][]api.Filter{{lzma(0)}, {lzma(3)}, {apart(1), lzma(0)}, {apart(256), lzma(40)}} {
		dist, _, _ := chainByWords(l)
		other := sums(data, dist)
		header := headed(t, len(row), len(data), 0, l...)
		b := laid(header, row, checkOf(4, other))
		wantDecoded(t, b, 4, math.MaxInt, other, api.Record{Unpadded: len(header) + len(row) + 8, Size: 400}, len(b))
		if dist > 0 {
			wantFault(t, laid(header, row, checkOf(4, data)), 4, math.MaxInt, api.ErrCheck, len(b)-8)
		}
	}
}
