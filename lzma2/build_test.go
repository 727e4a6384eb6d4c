package lzma2_test

import (
	"bytes"
	"math"
	"slices"
	"testing"

	"pith/api"
	"pith/lzenc"
	"pith/lzma2"
)

// P18.5: the chapter's examples.
func TestBuildOfExamples(t *testing.T) {
	b := built(t, 4096, rawPart(1, "ab"), packedPart(5, match(4, 2)))
	if !bytes.HasPrefix(b, []byte{1, 0, 1, 'a', 'b', 0xC0, 0, 3, 0}) || int(b[9]) != len(b)-12-1 || b[10] != 0x5D || b[len(b)-1] != 0 {
		t.Errorf("% X", b)
	}
	wantRead(t, b, 4096, -1, -1, []byte("ababab"), len(b))
	if b := built(t, 4096); !bytes.Equal(b, []byte{0}) {
		t.Errorf("of no parts: % X", b)
	}
	wantBuildRefused(t, api.ErrFormat, 4096, rawPart(2, "a"))
	wantBuildRefused(t, api.ErrRange, 4096, rawPart(1, ""))
	wantBuildRefused(t, api.ErrConfig, 4096, api.Part{Kind: 0})
}

// rowByHand: the row of parts that are right, of what an encoder cuts that is told the same.
func rowByHand(t *testing.T, dict int, parts []api.Part) []byte {
	t.Helper()
	e, _ := lzenc.New(api.Props{}, dict)
	var row []byte
	props := api.Props{}
	for _, p := range parts {
		if p.Kind == 1 || p.Kind == 6 {
			e.Clear()
		}
		if hasProps(p.Kind) {
			props = p.Props
		}
		if p.Kind >= 4 {
			e.Reset(props)
		}
		if isRaw(p.Kind) {
			row = join(row, headByWords(p.Kind, len(p.Raw), len(p.Raw), props), p.Raw)
			e.Raw(p.Raw...)
			continue
		}
		size := 0
		for _, y := range p.Symbols {
			if errno := e.Put(y); errno != api.OK {
				t.Fatalf("%+v: error %d", y, errno)
			}
			if y.Kind == api.SymMatch || y.Kind == api.SymRep {
				size += y.Len
			} else {
				size++
			}
		}
		body := e.Cut()
		row = join(row, headByWords(p.Kind, size, len(body), props), body)
	}
	return append(row, 0)
}

// P18.5: each kind begins anew what it says, and nothing else: the bytes are those that an encoder cuts that is told the same.
func TestBuildOfEachKind(t *testing.T) {
	begin := [][]api.Part{
		{rawPart(1, "abcd")},
		{packedPart(6, lit('a'), lit('b'), match(5, 2), lit('c'))},
		{rawPart(1, "ab"), packedPart(5, lit('c'), match(5, 2), lit('d'), rep(3, 1))},
		{packedPart(6, lit('a'), lit('b'), match(5, 2), lit('c')), rawPart(2, "xyz")},
		{packedPart(6, lit('a'), lit('b'), match(5, 2), lit('c')), rawPart(1, "xyz")},
		{packedPart(6, lit('a'), lit('b'), match(5, 2)), packedPart(3, lit('a'), short(), rep(2, 0)), packedPart(4, lit('b'), match(9, 3))},
	}
	for i, parts := range begin {
		props := i > 0 && i != 4
		for kind := 1; kind <= 6; kind++ {
			next := api.Part{Kind: kind, Props: api.Props{LC: 1, LP: 2, PB: 3}, Raw: []byte("raw"), Symbols: []api.Symbol{lit('a'), lit('b'), rep(3, 0), match(4, 2), short(), lit('a')}}
			all := append(slices.Clone(parts), next)
			if (kind == 3 || kind == 4) && !props {
				wantBuildRefused(t, api.ErrFormat, 4096, all...)
				continue
			}
			if b := built(t, 4096, all...); !bytes.Equal(b, rowByHand(t, 4096, all)) {
				t.Errorf("behind %s the kind %d: % X, want % X", brief(parts), kind, b, rowByHand(t, 4096, all))
			}
		}
	}
}

// P18.5: a chunk without properties goes on with those of the row, also behind raw chunks, and not with what stands in its part.
func TestBuildKeepsProperties(t *testing.T) {
	for _, p := range someProps {
		l := []api.Symbol{lit('a'), lit('b'), match(9, 2), lit('c'), lit('a'), rep(4, 0)}
		parts := []api.Part{{Kind: 6, Props: p, Symbols: l}, {Kind: 4, Props: api.Props{LC: 9}, Symbols: l}, rawPart(2, "zz"), {Kind: 4, Props: usual, Symbols: l}, {Kind: 3, Symbols: l}}
		b := built(t, 4096, parts...)
		if !bytes.Equal(b, rowByHand(t, 4096, parts)) {
			t.Errorf("%+v: % X", p, b)
		}
		if l, _, _ := lzma2.Chunks(b); l[0].Props != p || l[1].Props != (api.Props{}) {
			t.Errorf("%+v: the heads are %+v", p, l)
		}
	}
}

// P18.5: a dictionary that is none is refused ahead of all parts.
func TestBuildRefusesDictionaries(t *testing.T) {
	for _, dict := range noDicts {
		wantBuildRefused(t, api.ErrRange, dict)
		wantBuildRefused(t, api.ErrRange, dict, rawPart(1, "a"))
		wantBuildRefused(t, api.ErrRange, dict, api.Part{Kind: 7})
		wantBuildRefused(t, api.ErrRange, dict, rawPart(2, "a"))
	}
	for _, dict := range []int{1, 2, 4095, api.MaxTold} {
		b := built(t, dict, rawPart(1, "a"), packedPart(5, lit('b'), match(2, 1)))
		wantRead(t, b, dict, -1, -1, []byte("abbb"), len(b))
	}
}

// P18.5: kinds that are none, and kinds that may not follow.
func TestBuildRefusesKinds(t *testing.T) {
	for _, kind := range []int{0, -1, 7, -2, 8, 128, 256, 257, 1 << 32, 1<<32 + 1, math.MinInt, math.MaxInt} {
		part := api.Part{Kind: kind, Props: usual, Raw: []byte("a"), Symbols: []api.Symbol{lit('a')}}
		wantBuildRefused(t, api.ErrConfig, 4096, part)
		wantBuildRefused(t, api.ErrConfig, 4096, rawPart(1, "a"), part)
		wantBuildRefused(t, api.ErrConfig, 4096, part, rawPart(2, ""))
		wantBuildRefused(t, api.ErrConfig, 4096, api.Part{Kind: kind})
	}
	for _, kind := range []int{2, 3, 4, 5} {
		for _, part := range []api.Part{{Kind: kind}, packedPart(kind, lit('a')), rawPart(kind, "a"), {Kind: kind, Props: noProps[0], Symbols: []api.Symbol{{}}}} {
			wantBuildRefused(t, api.ErrFormat, 4096, part)
			wantBuildRefused(t, api.ErrFormat, 4096, part, api.Part{Kind: 7})
		}
	}
	for _, kind := range []int{3, 4} {
		wantBuildRefused(t, api.ErrFormat, 4096, rawPart(1, "a"), packedPart(kind, lit('a')))
		wantBuildRefused(t, api.ErrFormat, 4096, rawPart(1, "a"), rawPart(2, "a"), packedPart(kind))
		wantBuildRefused(t, api.ErrFormat, 4096, packedPart(6, lit('a')), rawPart(1, "a"), packedPart(kind, lit('a')))
	}
}

// P18.5: a raw part has from 1 to 65536 bytes.
func TestBuildOfRawSizes(t *testing.T) {
	for _, kind := range []int{1, 2} {
		ahead := []api.Part{rawPart(1, "ab")}[:kind-1]
		at := 5 * (kind - 1)
		for _, n := range []int{1, 2, 65535, 65536} {
			data := noise(int64(n), n)
			b := built(t, 4096, append(slices.Clone(ahead), api.Part{Kind: kind, Raw: data})...)
			if want := join(b[:at], []byte{byte(kind), byte((n - 1) >> 8), byte(n - 1)}, data, []byte{0}); !bytes.Equal(b, want) {
				t.Errorf("kind %d, %d bytes: %s", kind, n, shown(b))
			}
		}
		for _, n := range []int{0, 65537, 65538, 131072, 1 << 21, 1<<21 + 1} {
			wantBuildRefused(t, api.ErrRange, 4096, append(slices.Clone(ahead), api.Part{Kind: kind, Raw: make([]byte, n)})...)
		}
	}
	for kind := api.ChunkSame; kind <= api.ChunkAll; kind++ { // these do not look at Raw
		for _, n := range []int{0, 1, 65537} {
			b := built(t, 4096, packedPart(6, lit('a')), api.Part{Kind: kind, Props: usual, Raw: make([]byte, n), Symbols: []api.Symbol{lit('b')}})
			wantRead(t, b, 4096, -1, -1, []byte("ab"), len(b))
		}
	}
}

// P18.5: properties that are not allowed are refused where the kind has some, ahead of the symbols; the other kinds do not look at them.
func TestBuildOfProperties(t *testing.T) {
	for _, p := range noProps {
		for _, l := range [][]api.Symbol{{lit('b')}, nil, {{}}, {match(2, 9)}} {
			wantBuildRefused(t, api.ErrConfig, 4096, api.Part{Kind: 6, Props: p, Symbols: l})
			wantBuildRefused(t, api.ErrConfig, 4096, rawPart(1, "a"), api.Part{Kind: 5, Props: p, Symbols: l})
		}
		b := built(t, 4096, packedPart(6, lit('a')), api.Part{Kind: 3, Props: p, Symbols: []api.Symbol{lit('b')}}, api.Part{Kind: 4, Props: p, Symbols: []api.Symbol{lit('c')}}, api.Part{Kind: 2, Props: p, Raw: []byte("d")}, api.Part{Kind: 1, Props: p, Raw: []byte("e")})
		wantRead(t, b, 4096, -1, -1, []byte("abcde"), len(b))
	}
	for _, p := range someProps {
		b := built(t, 4096, api.Part{Kind: 6, Props: p, Symbols: []api.Symbol{lit('a'), lit('b'), rep(20, 0)}})
		wantRead(t, b, 4096, -1, -1, append([]byte("a"), bytes.Repeat([]byte("b"), 21)...), len(b))
	}
}

// P18.5: the error of the first symbol that is refused, ahead of what the others make.
func TestBuildOfWrongSymbols(t *testing.T) {
	many := slices.Repeat([]api.Symbol{rep(273, 0)}, 7700)
	for _, c := range []struct {
		l    []api.Symbol
		want api.Errno
	}{
		{nil, api.ErrRange}, {[]api.Symbol{}, api.ErrRange},
		{[]api.Symbol{{}}, api.ErrConfig}, {[]api.Symbol{{Kind: 5}}, api.ErrConfig}, {[]api.Symbol{lit('a'), {Kind: -1}, match(2, 9)}, api.ErrConfig},
		{[]api.Symbol{match(2, 9), {}}, api.ErrRange}, {[]api.Symbol{match(2, 1)}, api.ErrRange}, {[]api.Symbol{short()}, api.ErrRange}, {[]api.Symbol{lit('a'), match(1, 1)}, api.ErrRange}, {[]api.Symbol{lit('a'), match(274, 1)}, api.ErrRange}, {[]api.Symbol{lit('a'), rep(2, 4)}, api.ErrRange},
		{append(append([]api.Symbol{lit('a')}, many...), api.Symbol{}), api.ErrConfig},
		{append(append([]api.Symbol{lit('a')}, many...), match(2, 5000)), api.ErrRange},
	} {
		wantBuildRefused(t, c.want, 4096, packedPart(6, c.l...))
	}
	wantBuildRefused(t, api.ErrRange, 2, rawPart(1, "abc"), packedPart(5, match(2, 3)))
	built(t, 3, rawPart(1, "abc"), packedPart(5, match(2, 3)))
	wantBuildRefused(t, api.ErrRange, 4096, rawPart(1, "abc"), packedPart(6, match(2, 3)))
	built(t, 4096, rawPart(1, "abc"), rawPart(1, "de"), packedPart(5, match(2, 2)))
	built(t, 4096, rawPart(1, "abc"), rawPart(2, "de"), packedPart(5, match(2, 5)))
	wantBuildRefused(t, api.ErrRange, 4096, rawPart(1, "abc"), rawPart(1, "de"), packedPart(5, match(2, 3)))
	wantBuildRefused(t, api.ErrRange, 4096, packedPart(6, lit('a'), rep(9, 0)), rawPart(1, "de"), packedPart(5, match(2, 3)))
	wantBuildRefused(t, api.ErrConfig, 4096, packedPart(6, lit('a')), packedPart(3, api.Symbol{}), api.Part{Kind: 7})
	wantBuildRefused(t, api.ErrRange, 4096, packedPart(6, lit('a')), packedPart(3), api.Part{Kind: 7})
}

// P18.5: up to MaxChunk plain bytes are taken.
func TestBuildOfMostPlainBytes(t *testing.T) {
	l := append([]api.Symbol{lit('a')}, slices.Repeat([]api.Symbol{rep(273, 0)}, 7681)...)
	for n, want := range map[int]api.Errno{237: api.OK, 238: api.OK, 239: api.ErrRange, 273: api.ErrRange} {
		all := append(slices.Clone(l), rep(n, 0))
		if want != api.OK {
			wantBuildRefused(t, want, 4096, packedPart(6, all...))
			continue
		}
		b := built(t, 4096, packedPart(6, all...))
		size := 1 + 7681*273 + n
		wantRead(t, b, 4096, len(b), size, bytes.Repeat([]byte("a"), size), len(b))
		if n == 238 && !bytes.HasPrefix(b, []byte{0xFF, 0xFF, 0xFF}) {
			t.Errorf("MaxChunk bytes: %s", shown(b))
		}
	}
}

// P18.5: up to MaxPacked packed bytes are taken.
func TestBuildOfMostPackedBytes(t *testing.T) {
	e, _ := lzenc.New(usual, 4096)
	var l []api.Symbol
	bytes := noise(5, 70000)
	for e.Size() < api.MaxPacked {
		l = append(l, lit(bytes[len(l)]))
		e.Put(l[len(l)-1])
	}
	if e.Size() != api.MaxPacked {
		t.Fatalf("the edge is not met: %d packed bytes", e.Size())
	}
	b := built(t, 4096, packedPart(6, l...))
	if len(b) != 6+api.MaxPacked+1 || b[3] != 0xFF || b[4] != 0xFF {
		t.Errorf("%d bytes: %s", len(b), shown(b))
	}
	wantRead(t, b, 4096, -1, -1, bytes[:len(l)], len(b))
	for e.Size() == api.MaxPacked {
		l = append(l, lit(bytes[len(l)]))
		e.Put(l[len(l)-1])
	}
	wantBuildRefused(t, api.ErrRange, 4096, packedPart(6, l...))
	wantBuildRefused(t, api.ErrRange, 4096, packedPart(6, lit('a')), packedPart(4, l...))
}
