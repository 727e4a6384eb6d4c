package lzma2_test

import (
	"bytes"
	"math"
	"slices"
	"testing"

	"pith/api"
	"pith/lzma2"
)

// P18.6: rows of parts by chance are read again, with the same dictionary and with greater ones, whatever stands behind, also with their sizes told; and their symbols are the parts'.
func TestPartsThereAndBack(t *testing.T) {
	t.Parallel()
	for seed := range int64(300) {
		dict := []int{1, 2, 3, 7, 40, 300, 4096, api.MaxTold}[seed%8]
		a := newAuthor(seed, dict)
		a.more(int(seed % 12))
		b := built(t, dict, a.parts...)
		if !bytes.Equal(b, rowByHand(t, dict, a.parts)) {
			t.Errorf("seed %d: the row is %s", seed, shown(b))
		}
		for _, greater := range []int{dict, min(dict+1, api.MaxTold), min(2*dict+5, api.MaxTold), api.MaxTold} {
			for _, behind := range [][]byte{nil, {0}, noise(seed, 9)} {
				row := join(b, behind)
				wantRead(t, row, greater, -1, -1, a.data, len(b))
				wantRead(t, row, greater, len(b), len(a.data), a.data, len(b))
				wantRead(t, row, greater, len(b), -1, a.data, len(b))
				wantRead(t, row, greater, -1, len(a.data), a.data, len(b))
				if l, errno := lzma2.Symbols(row, greater); errno != api.OK || !sameLists(l, a.all) {
					t.Errorf("seed %d, dictionary %d: %v, error %d; want %v", seed, greater, l, errno, a.all)
				}
			}
		}
		l, n, errno := lzma2.Chunks(b)
		if errno != api.OK || n != len(b) || len(l) != len(a.parts)+1 {
			t.Fatalf("seed %d: Chunks: %+v, %d, error %d", seed, l, n, errno)
		}
		for i, p := range a.parts {
			if l[i].Kind != p.Kind || hasProps(p.Kind) && l[i].Props != p.Props || !hasProps(p.Kind) && l[i].Props != (api.Props{}) {
				t.Errorf("seed %d: the head %d is %+v of %+v", seed, i, l[i], p)
			}
		}
	}
}

// P18.7: what Encode answers is read, with any dictionary that is at least its own; it is as short as it says; each chunk but the last one has 65536 plain bytes.
func TestEncodeIsRead(t *testing.T) {
	t.Parallel()
	for i, data := range [][]byte{nil, {7}, text(1, 100), noise(1, 1000), text(2, 65536), noise(2, 65537), pieces("tn"), append(pieces("nt"), noise(3, 500)...), bytes.Repeat([]byte{0}, 150000)} {
		for _, mode := range modes {
			for _, dict := range []int{4096, 5000, 1 << 20} {
				if mode == api.ModeCheap && dict == 5000 {
					continue
				}
				c := api.Config{Props: someProps[i%len(someProps)], Dict: dict, Mode: mode}
				b := encoded(t, data, c)
				for _, d := range []int{dict, dict + 1, api.MaxDict, api.MaxTold} {
					wantRead(t, append(slices.Clone(b), 1, 2), d, -1, -1, data, len(b))
				}
				wantRead(t, b, dict, len(b), len(data), data, len(b))
				if most := len(data) + 3*((len(data)+65535)/65536) + 1; len(b) > most {
					t.Errorf("data %d, %+v: %d bytes, at most %d are allowed", i, c, len(b), most)
				}
				l, _, _ := lzma2.Chunks(b)
				for k, x := range l[:max(0, len(l)-2)] {
					if x.Size != 65536 {
						t.Errorf("data %d, %+v: the chunk %d has %d plain bytes", i, c, k, x.Size)
					}
				}
			}
		}
	}
}

// P18.7, and P7 of the whole: equal bytes have a short row.
func TestEqualBytesPack(t *testing.T) {
	t.Parallel()
	for _, n := range []int{64, 65, 100, 273, 274, 1000, 5000, 65535, 65536} {
		for _, mode := range modes[1:] {
			for _, p := range someProps {
				b := encoded(t, bytes.Repeat([]byte("q"), n), api.Config{Props: p, Dict: 4096, Mode: mode})
				if len(b) > 64+n/64 {
					t.Errorf("%d equal bytes, mode %d, %+v: %d", n, mode, p, len(b))
				}
			}
		}
	}
}

// shortRow: a row that is not long, and a dictionary with which it is read.
type shortRow struct {
	row  []byte
	dict int
}

// shortRows: of all kinds of chunks.
func shortRows(t *testing.T) []shortRow {
	t.Helper()
	rows := []shortRow{{[]byte{0}, 1}, {abc[:7], 1}, {zero, 1}}
	for seed := range int64(40) {
		dict := []int{5, 300, 4096}[seed%3]
		a := newAuthor(seed, dict)
		a.more(1 + int(seed%7))
		rows = append(rows, shortRow{built(t, dict, a.parts...), dict})
	}
	for _, mode := range modes {
		rows = append(rows, shortRow{encoded(t, text(4, 300), config(mode)), 4096}, shortRow{encoded(t, noise(4, 300), config(mode)), 4096})
	}
	far := built(t, 4096, api.Part{Kind: 1, Raw: noise(1, 300)}, packedPart(5, match(273, 300), rep(273, 0)), packedPart(3, lit('x')), api.Part{Kind: 2, Raw: noise(2, 400)}, packedPart(4, lit('y'), match(100, 400)))
	return append(rows, shortRow{far, 4096})
}

// P18.8: every proper beginning of a row is truncated, for all who read it; with its own sizes told, both or one, too.
func TestBeginnings(t *testing.T) {
	t.Parallel()
	for _, x := range shortRows(t) {
		b, dict := x.row, x.dict
		data, n, errno := lzma2.Decode(b, dict, -1, -1)
		if errno != api.OK || n != len(b) {
			t.Fatalf("Decode(%s): %d, error %d", shown(b), n, errno)
		}
		for k := range b {
			at := readByWords(b[:k], dict, -1, -1, false).n
			wantFault(t, b[:k], dict, -1, -1, api.ErrTruncated, at)
			wantFault(t, b[:k], dict, n, len(data), api.ErrTruncated, at)
			wantFault(t, b[:k], dict, n, -1, api.ErrTruncated, at)
			wantFault(t, b[:k], dict, -1, len(data), api.ErrTruncated, at)
			wantNoChunks(t, b[:k], api.ErrTruncated)
			if l, errno := lzma2.Symbols(b[:k], dict); len(l) > 0 || errno != api.ErrTruncated {
				t.Errorf("Symbols(%s): %v, error %d", shown(b[:k]), l, errno)
			}
		}
	}
}

// P18.9: with just the right sizes told a row is read alike, with any others there is a fault, and it lies where the words say.
func TestToldSizes(t *testing.T) {
	t.Parallel()
	for i, x := range shortRows(t) {
		for _, behind := range [][]byte{nil, {0, 1, 2, 3}, noise(1, 50)}[i%2 : 2+i%2] {
			b, dict := join(x.row, behind), x.dict
			data, n, errno := lzma2.Decode(b, dict, -1, -1)
			if errno != api.OK || n != len(x.row) {
				t.Fatalf("Decode(%s): %d, error %d", shown(b), n, errno)
			}
			for packed := range n + 6 {
				wantTold(t, b, dict, packed, -1, data, n)
				if packed > n-6 {
					wantTold(t, b, dict, packed, len(data), data, n)
				}
			}
			for size := range len(data) + 6 {
				wantTold(t, b, dict, -1, size, data, n)
				if size > 20 && size < len(data)-20 {
					continue
				}
				wantTold(t, b, dict, n, size, data, n)
				wantTold(t, b, dict, n-1, size, data, n)
				wantTold(t, b, dict, n+1, size, data, n)
			}
			for _, far := range []int{math.MaxInt, math.MaxInt - 1, 1 << 32, 1<<32 + n, 1<<32 + len(data)} {
				wantTold(t, b, dict, far, -1, data, n)
				wantTold(t, b, dict, -1, far, data, n)
				wantTold(t, b, dict, far, far, data, n)
			}
		}
	}
}

// wantTold: read, if these are the sizes of the row or none; else ErrFormat at the words' place.
func wantTold(t *testing.T, b []byte, dict, packed, size int, data []byte, n int) {
	t.Helper()
	if (packed == -1 || packed == n) && (size == -1 || size == len(data)) {
		wantRead(t, b, dict, packed, size, data, n)
		return
	}
	wantFault(t, b, dict, packed, size, api.ErrFormat, readByWords(b, dict, packed, size, false).n)
}
