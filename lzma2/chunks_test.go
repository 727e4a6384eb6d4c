package lzma2_test

import (
	"slices"
	"testing"

	"pith/api"
	"pith/lzma2"
)

// wantChunks: these heads, the end behind them, and how many bytes the row has.
func wantChunks(t *testing.T, b []byte, n int, want ...api.Chunk) {
	t.Helper()
	l, m, errno := lzma2.Chunks(b)
	if !slices.Equal(l, append(want, api.Chunk{})) || m != n || errno != api.OK {
		t.Errorf("Chunks(%s): %+v, %d, error %d; want %+v and the end, %d", shown(b), l, m, errno, want, n)
	}
}

// P18.3: the heads, the end too, and how many bytes the row has.
func TestChunks(t *testing.T) {
	wantChunks(t, []byte{0}, 1)
	wantChunks(t, []byte{0, 3, 3}, 1)
	wantChunks(t, abc, 7, api.Chunk{Kind: 1, Size: 3, Packed: 3})
	wantChunks(t, zero, 13, api.Chunk{Kind: 6, Size: 1, Packed: 6, Props: usual})
	b := built(t, 4096, rawPart(1, "ab"), rawPart(2, "c"), packedPart(5, match(273, 2)), packedPart(3, lit('x')), packedPart(4, lit('x')), packedPart(6, lit('x')))
	l, n, errno := lzma2.Chunks(append(b, 9, 9))
	if errno != api.OK || n != len(b) || len(l) != 7 {
		t.Fatalf("%+v, %d, error %d", l, n, errno)
	}
	for i, want := range []api.Chunk{{Kind: 1, Size: 2}, {Kind: 2, Size: 1}, {Kind: 5, Size: 273, Props: usual}, {Kind: 3, Size: 1}, {Kind: 4, Size: 1}, {Kind: 6, Size: 1, Props: usual}, {}} {
		got := l[i]
		if isRaw(got.Kind) && got.Packed != got.Size || got.Kind > 2 && got.Packed < 5 {
			t.Errorf("the chunk %d has %d packed bytes", i, got.Packed)
		}
		got.Packed = 0
		if got != want {
			t.Errorf("the chunk %d is %+v, want %+v", i, got, want)
		}
	}
}

// P18.3: rows whose packed bytes mean nothing; they must be there all the same.
func TestChunksOfBytesThatMeanNothing(t *testing.T) {
	for _, x := range []struct {
		head []byte
		want api.Chunk
	}{
		{[]byte{0xFF, 0xFF, 0xFF, 0, 0, 0xB8}, api.Chunk{Kind: 6, Size: 1 << 21, Packed: 1, Props: api.Props{LC: 4, PB: 4}}},
		{[]byte{0xE0, 0, 0, 0xFF, 0xFF, 0}, api.Chunk{Kind: 6, Size: 1, Packed: 65536}},
		{[]byte{0xE1, 2, 3, 1, 2, 0x5D}, api.Chunk{Kind: 6, Size: 65536 + 2*256 + 3 + 1, Packed: 256 + 2 + 1, Props: usual}},
	} {
		for _, seed := range []int64{1, 2, 3} {
			body := noise(seed, x.want.Packed)
			b := join(x.head, body, []byte{0x80, 5, 5, 0, 1, 0xAA, 0xBB}, []byte{0}, noise(seed, 5))
			wantChunks(t, b, len(b)-5, x.want, api.Chunk{Kind: 3, Size: 5*256 + 5 + 1, Packed: 2})
			for n := range len(x.head) + x.want.Packed {
				if n > 40 && n < x.want.Packed-40 {
					continue
				}
				wantNoChunks(t, b[:n], api.ErrTruncated)
			}
		}
	}
}

// wantNoChunks: the row is refused so.
func wantNoChunks(t *testing.T, b []byte, want api.Errno) {
	t.Helper()
	if l, n, errno := lzma2.Chunks(b); len(l) > 0 || n != 0 || errno != want {
		t.Errorf("Chunks(%s): %+v, %d, error %d; want error %d", shown(b), l, n, errno, want)
	}
}

// P18.3: what is wrong with heads, and with their order, is refused, and nothing is answered beside it, also behind chunks that are right.
func TestChunksRefuses(t *testing.T) {
	for _, f := range fronts(t) {
		for first := range 256 {
			kind := first
			if first >= 128 {
				kind = 3 + (first-128)/32
			}
			b := append(slices.Clone(f.row), byte(first))
			switch {
			case first == 0:
				continue
			case first > 2 && first < 128 || !f.allows(kind):
				wantNoChunks(t, b, api.ErrFormat)
			default:
				wantNoChunks(t, b, api.ErrTruncated)
			}
		}
		wantNoChunks(t, f.row, api.ErrTruncated)
		wantNoChunks(t, join(f.row, []byte{0xE0, 0, 0, 0, 0, 225, 0, 0}), api.ErrFormat)
	}
}

// P18.4: of each chunk but the end its symbols; of a raw one none.
func TestSymbols(t *testing.T) {
	first := []api.Symbol{match(4, 2), rep(2, 0), lit('x'), short()}
	second := []api.Symbol{lit('y'), rep(3, 1), match(273, 9)}
	b := built(t, 4096, rawPart(1, "ab"), packedPart(5, first...), rawPart(2, "cd"), packedPart(3, second...), packedPart(6, lit(0)))
	want := [][]api.Symbol{nil, first, nil, second, {lit(0)}}
	for _, row := range [][]byte{b, append(slices.Clone(b), 3, 4)} {
		if l, errno := lzma2.Symbols(row, 4096); errno != api.OK || !sameLists(l, want) {
			t.Errorf("%v, error %d; want %v", l, errno, want)
		}
	}
	for _, c := range []struct {
		b    []byte
		want [][]api.Symbol
	}{{[]byte{0}, nil}, {abc, [][]api.Symbol{nil}}, {zero, [][]api.Symbol{{lit(0)}}}} {
		if l, errno := lzma2.Symbols(c.b, 1); errno != api.OK || !sameLists(l, c.want) {
			t.Errorf("Symbols(%s): %v, error %d; want %v", shown(c.b), l, errno, c.want)
		}
	}
}

// P18.4: the errors of Decode without told sizes, and nothing beside them.
func TestSymbolsRefuses(t *testing.T) {
	for _, f := range fronts(t) {
		for _, behind := range [][]byte{nil, {3}, {0x7F}, {1}, {1, 0, 5, 1, 2}, {0xE0, 0, 0, 0, 5, 225}, {0xE0, 0, 0, 0, 5, 0x5D, 1, 0, 0, 0, 0, 0, 0}, {0x80}} {
			b := join(f.row, behind)
			_, _, want := lzma2.Decode(b, 4096, -1, -1)
			if l, errno := lzma2.Symbols(b, 4096); len(l) > 0 || errno != want || want == api.OK {
				t.Errorf("Symbols(%s): %v, error %d; want error %d", shown(b), l, errno, want)
			}
		}
	}
}
