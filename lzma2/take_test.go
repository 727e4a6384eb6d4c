package lzma2_test

import (
	"bytes"
	"slices"
	"testing"

	"pith/api"
	"pith/lzma2"
)

// head: of a chunk by the document's words, with the usual properties.
func head(kind, size, packed int) []byte { return headByWords(kind, size, packed, usual) }

// The bits of some symbols, each by a probability that is Half, as long as no two of them are the same in kind.
const (
	literalA = "0 01100001 "
	match3   = "1 0 0 001 000001"                             // 3 bytes from 2
	match2   = "1 0 0 000 000010"                             // 2 bytes from 3
	rep9     = "1 1 0 1 0 111"                                // of the first distance
	farthest = "1 0 0 000 111111 iiiiiiiiiiiiiiiiiiiiiiiiii " // 2 bytes from one of the sixteen last distances, by four bits more
	beginsA  = literalA + farthest
)

// body: packed bytes for a chunk of so many plain bytes.
type body struct {
	packed []byte
	size   int
}

// spoilt: packed bytes that mean no row of symbols of so many plain bytes, at the front and behind two raw bytes.
func spoilt() map[string]body {
	return map[string]body{
		"a first byte that is not 0":            {[]byte{1, 0, 0, 0, 0, 0}, 1},
		"bytes that end too early":              {make([]byte, 5), 1},
		"one byte":                              {make([]byte, 1), 1},
		"a byte is left":                        {make([]byte, 7), 1},
		"a code that is not 0 at the end":       {[]byte{0, 0, 0, 0, 0, 1}, 1},
		"a code that no encoder makes":          {join([]byte{0}, bytes.Repeat([]byte{0xFF}, 20)), 3},
		"fewer plain bytes than are told":       {make([]byte, 6), 200},
		"a match that makes more than are told": {coded(match3), 2},
		"a rep that makes more than are told":   {coded(literalA + rep9), 9},
		"a copy from beyond the dictionary":     {coded(match2), 2},
		"the distance MaxTold":                  {coded(beginsA + "0111"), 3},
		"the distance MaxTold + 1":              {coded(beginsA + "1111"), 3},
	}
}

// P18.2: the same bits are read where there is nothing against them: so the bytes above are refused for what is said of them.
func TestBytesThatAreNotSpoilt(t *testing.T) {
	for _, c := range []struct {
		ahead string
		body  body
		want  string
	}{
		{"ab", body{make([]byte, 6), 1}, "ab\x00"},
		{"ab", body{coded(match3), 3}, "ababa"},
		{"ab", body{coded(literalA + rep9), 10}, "abaaaaaaaaaa"},
		{"abc", body{coded(match2), 2}, "abcab"},
	} {
		b := join(head(1, len(c.ahead), len(c.ahead)), []byte(c.ahead), head(5, c.body.size, len(c.body.packed)), c.body.packed, []byte{0})
		wantRead(t, b, 4096, -1, -1, []byte(c.want), len(b))
	}
}

// P18.2, P18.4: packed bytes that are refused are a fault at their first one, whatever is told, and whatever comes behind; Chunks does not look at them.
func TestSpoiltBytes(t *testing.T) {
	for name, x := range spoilt() {
		for _, ahead := range []string{"", "ab"} {
			kind, row := api.ChunkAll, []byte(nil)
			if ahead != "" {
				kind, row = api.ChunkProps, join(head(api.ChunkFirst, 2, 2), []byte(ahead))
			}
			row = join(row, head(kind, x.size, len(x.packed)))
			at := len(row)
			whole := join(row, x.packed, []byte{0, 0xFF})
			n := len(whole) - 1
			t.Run(name, func(t *testing.T) {
				wantFault(t, whole, 4096, -1, -1, api.ErrFormat, at)
				wantFault(t, whole, 4096, n, len(ahead)+x.size, api.ErrFormat, at)
				wantFault(t, whole[:n-1], 4096, -1, -1, api.ErrFormat, at)
				wantFault(t, whole[:n-2], 4096, -1, -1, api.ErrTruncated, at)
				if l, errno := lzma2.Symbols(whole, 4096); len(l) > 0 || errno != api.ErrFormat {
					t.Errorf("Symbols: %v, error %d", l, errno)
				}
				if l, m, errno := lzma2.Chunks(whole); m != n || errno != api.OK || l[len(l)-2] != (api.Chunk{Kind: kind, Size: x.size, Packed: len(x.packed), Props: usual}) {
					t.Errorf("Chunks: %+v, %d, error %d", l, m, errno)
				}
			})
		}
	}
}

// P18.2: a copy from within the dictionary is read, from beyond it is not: with each dictionary that is too small.
func TestDictionaryTooSmall(t *testing.T) {
	data := noise(3, 100)
	b := built(t, 4096, api.Part{Kind: 1, Raw: data}, packedPart(5, match(5, 100)))
	want := append(slices.Clone(data), data[:5]...)
	for _, dict := range []int{100, 101, 4096, api.MaxTold} {
		wantRead(t, b, dict, -1, -1, want, len(b))
	}
	for _, dict := range []int{1, 2, 50, 99} {
		wantFault(t, b, dict, -1, -1, api.ErrFormat, 103+6)
		if l, errno := lzma2.Symbols(b, dict); len(l) > 0 || errno != api.ErrFormat {
			t.Errorf("Symbols with the dictionary %d: %v, error %d", dict, l, errno)
		}
	}
}

// P18.2: where the dictionary is begun anew nothing of before is copied from, by a ChunkFirst and by a ChunkAll; the other kinds leave it.
func TestDictionaryBegunAnew(t *testing.T) {
	e := coded("1 0 0 000 000000") // a match of 2 from 1, as the first symbol
	for _, c := range []struct {
		row  []byte
		want string
		at   int
	}{
		{join(head(1, 1, 1), []byte("a"), head(5, 2, len(e)), e, []byte{0}), "aaa", 0},
		{join(head(1, 1, 1), []byte("a"), head(6, 2, len(e)), e, []byte{0}), "", 10},
		{join(head(6, 1, 6), make([]byte, 6), head(4, 2, len(e)), e, []byte{0}), "\x00\x00\x00", 0},
		{join(head(6, 1, 6), make([]byte, 6), head(5, 2, len(e)), e, []byte{0}), "\x00\x00\x00", 0},
		{join(head(6, 1, 6), make([]byte, 6), head(6, 2, len(e)), e, []byte{0}), "", 18},
	} {
		if c.want == "" {
			wantFault(t, c.row, 4096, -1, -1, api.ErrFormat, c.at)
		} else {
			wantRead(t, c.row, 4096, -1, -1, []byte(c.want), len(c.row))
		}
	}
	far := coded("1 0 0 000 000001") // a match of 2 from 2
	b := join(head(1, 2, 2), []byte("ab"), head(1, 1, 1), []byte("c"), head(5, 2, len(far)), far, []byte{0})
	wantFault(t, b, 4096, -1, -1, api.ErrFormat, 5+4+6)
	b[5] = 2 // the second raw chunk leaves the dictionary
	wantRead(t, b, 4096, -1, -1, []byte("abcbc"), len(b))
}
