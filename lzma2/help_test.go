package lzma2_test

import (
	"bytes"
	"math"
	"math/rand"
	"slices"
	"testing"

	"pith/api"
	"pith/lzma2"
	"pith/prob"
	"pith/rcenc"
)

// usual: the properties of the chapter's examples.
var usual = api.Props{LC: 3, PB: 2}

// someProps: properties that are allowed, the edges among them.
var someProps = []api.Props{{}, {LC: 3, PB: 2}, {LC: 4}, {LP: 4, PB: 4}, {LC: 4, PB: 4}, {LC: 2, LP: 2, PB: 1}, {LC: 1, LP: 3, PB: 3}}

// noProps: properties that are not.
var noProps = []api.Props{
	{LC: 5}, {LP: 5}, {PB: 5}, {LC: 1, LP: 4}, {LC: 4, LP: 1}, {LC: -1}, {LP: -1}, {PB: -1}, {LC: -1, LP: 5}, {LC: 5, LP: -1},
	{LC: math.MaxInt, LP: 1}, {LC: math.MinInt, LP: math.MinInt}, {PB: math.MaxInt}, {PB: math.MinInt}, {LC: 1 << 32},
}

// noDicts: dictionaries that no coder can have.
var noDicts = []int{0, -1, -4096, api.MaxTold + 1, api.MaxTold + 2, 1<<32 + 4096, -1 << 32, math.MinInt, math.MaxInt}

// modes: all of them.
var modes = []int{api.ModeRaw, api.ModeGreedy, api.ModeCheap}

func config(mode int) api.Config { return api.Config{Props: usual, Dict: 4096, Mode: mode} }

func lit(b byte) api.Symbol { return api.Symbol{Kind: api.SymLit, Byte: b} }

func match(n, dist int) api.Symbol { return api.Symbol{Kind: api.SymMatch, Len: n, Dist: dist} }

func rep(n, i int) api.Symbol { return api.Symbol{Kind: api.SymRep, Len: n, Dist: i} }

func short() api.Symbol { return api.Symbol{Kind: api.SymShort} }

// clean: the symbols with zeros where their kinds do not look.
func clean(l []api.Symbol) []api.Symbol {
	all := make([]api.Symbol, len(l))
	for i, y := range l {
		switch y.Kind {
		case api.SymLit:
			all[i] = lit(y.Byte)
		case api.SymShort:
			all[i] = short()
		default:
			all[i] = api.Symbol{Kind: y.Kind, Len: y.Len, Dist: y.Dist}
		}
	}
	return all
}

func rawPart(kind int, s string) api.Part { return api.Part{Kind: kind, Raw: []byte(s)} }

func packedPart(kind int, l ...api.Symbol) api.Part {
	return api.Part{Kind: kind, Props: usual, Symbols: l}
}

// noise: n bytes that no coder makes fewer.
func noise(seed int64, n int) []byte {
	b := make([]byte, n)
	rand.New(rand.NewSource(seed)).Read(b)
	return b
}

// text: n bytes of words that come again and again; they pack.
func text(seed int64, n int) []byte {
	r := rand.New(rand.NewSource(seed))
	words := make([][]byte, 60)
	for i := range words {
		words[i] = []byte("etaoinshrdlu ")[r.Intn(4) : 6+r.Intn(8)]
	}
	b := make([]byte, 0, n+16)
	for len(b) < n {
		b = append(b, words[r.Intn(len(words))]...)
		b = append(b, byte('a'+r.Intn(26)), ' ')
	}
	return b[:n]
}

// coded: the bytes of bits, each by a probability that is Half (0, 1) or by none (i: a 1); blanks are for the eye.
func coded(bits string) []byte {
	e := rcenc.New()
	for _, c := range bits {
		s, _ := prob.New(1)
		switch c {
		case '0', '1':
			e.Bit(s, 0, int(c-'0'))
		case 'i':
			e.Direct(1, 1)
		}
	}
	return e.Bytes()
}

// withRoom: b, and behind it room with other bytes in it.
func withRoom(b []byte) []byte {
	room := append(slices.Clone(b), 0xAA, 0, 0xE0, 1, 0xFF, 0x5D, 2, 0x80, 0x7F)
	return room[:len(b)]
}

// join: byte strings one behind the other.
func join(l ...[]byte) []byte { return slices.Concat(l...) }

// built: a row of the parts.
func built(t *testing.T, dict int, parts ...api.Part) []byte {
	t.Helper()
	b, errno := lzma2.Build(dict, parts...)
	if errno != api.OK {
		t.Fatalf("Build(%d, %d parts): error %d", dict, len(parts), errno)
	}
	return b
}

// encoded: the row of the data.
func encoded(t *testing.T, data []byte, c api.Config) []byte {
	t.Helper()
	b, errno := lzma2.Encode(data, c)
	if errno != api.OK {
		t.Fatalf("Encode(%d bytes, %+v): error %d", len(data), c, errno)
	}
	return b
}

// wantBuildRefused: with this error, and no row.
func wantBuildRefused(t *testing.T, want api.Errno, dict int, parts ...api.Part) {
	t.Helper()
	if b, errno := lzma2.Build(dict, parts...); len(b) > 0 || errno != want {
		t.Errorf("Build(%d, %s): %d bytes, error %d; want error %d", dict, brief(parts), len(b), errno, want)
	}
}

// brief: of parts, for what a test tells.
func brief(parts []api.Part) string {
	s := ""
	for _, p := range parts[max(0, len(parts)-4):] {
		s += string(rune('0'+max(0, min(9, p.Kind)))) + " "
	}
	return s
}

// wantRead: these data, and how many bytes the row has.
func wantRead(t *testing.T, b []byte, dict, packed, size int, data []byte, n int) {
	t.Helper()
	d, m, errno := lzma2.Decode(b, dict, packed, size)
	if errno != api.OK || m != n || !bytes.Equal(d, data) {
		t.Errorf("Decode(%s, %d, %d, %d): %d bytes, %d, error %d; want %d bytes, %d", shown(b), dict, packed, size, len(d), m, errno, len(data), n)
	}
}

// wantFault: this error at this place, and no data.
func wantFault(t *testing.T, b []byte, dict, packed, size int, want api.Errno, at int) {
	t.Helper()
	d, m, errno := lzma2.Decode(b, dict, packed, size)
	if len(d) > 0 || m != at || errno != want {
		t.Errorf("Decode(%s, %d, %d, %d): %d bytes, %d, error %d; want error %d at %d", shown(b), dict, packed, size, len(d), m, errno, want, at)
	}
}

// shown: the front of bytes in base sixteen.
func shown(b []byte) string {
	const digits = "0123456789ABCDEF"
	s := ""
	for _, c := range b[:min(40, len(b))] {
		s += string([]byte{digits[c>>4], digits[c&15], ' '})
	}
	if len(b) > 40 {
		s += ".."
	}
	return s
}

// kindsOf: of a row's chunks, without the end.
func kindsOf(t *testing.T, b []byte) []int {
	t.Helper()
	l, _, errno := lzma2.Chunks(b)
	if errno != api.OK {
		t.Fatalf("Chunks(%s): error %d", shown(b), errno)
	}
	var kinds []int
	for _, c := range l[:len(l)-1] {
		kinds = append(kinds, c.Kind)
	}
	return kinds
}

func isRaw(kind int) bool { return kind == api.ChunkFirst || kind == api.ChunkRaw }

func hasProps(kind int) bool { return kind == api.ChunkProps || kind == api.ChunkAll }

// sameLists: of lists of symbols; nil and empty ones are the same.
func sameLists(a, b [][]api.Symbol) bool {
	return slices.EqualFunc(a, b, func(x, y []api.Symbol) bool { return slices.Equal(x, y) })
}
