package symbol_test

import (
	"bytes"
	"math/rand"
	"slices"
	"testing"

	"pith/api"
	"pith/state"
	"pith/symbol"
)

func wantSize(t *testing.T, y api.Symbol, want int) {
	t.Helper()
	if n := symbol.Size(y); n != want {
		t.Errorf("Size of %+v is %d, want %d", y, n, want)
	}
}

// P13.3: the chapter's examples.
func TestSizeExamples(t *testing.T) {
	wantSize(t, lit('a'), 1)
	wantSize(t, match(5, 2), 5)
	wantSize(t, match(1, 2), 0)
	wantSize(t, short(), 1)
	wantSize(t, rep(3, 4), 0)
	wantSize(t, api.Symbol{}, 0)
}

// P13.3: formed ones of each kind, at the edges.
func TestSizeOfFormedOnes(t *testing.T) {
	for _, n := range lengths {
		for _, d := range []int{1, 2, 273, 1 << 31, api.MaxTold - 1, api.MaxTold} {
			wantSize(t, match(n, d), n)
		}
		for i := range 4 {
			wantSize(t, rep(n, i), n)
		}
	}
	for b := range 256 {
		wantSize(t, lit(byte(b)), 1)
		wantSize(t, api.Symbol{Kind: api.SymShort, Byte: byte(b)}, 1)
		wantSize(t, api.Symbol{Kind: api.SymMatch, Byte: byte(b), Len: 7, Dist: 1}, 7)
	}
	numbers := slices.Concat(lengths, noLengths, noDistances, noReps)
	for _, n := range numbers {
		for _, d := range numbers {
			wantSize(t, api.Symbol{Kind: api.SymLit, Len: n, Dist: d}, 1)
			wantSize(t, api.Symbol{Kind: api.SymShort, Len: n, Dist: d}, 1)
		}
	}
}

// P13.3: those that are not formed, and kinds that are none, have the size 0.
func TestSizeOfThoseThatAreNotFormed(t *testing.T) {
	for _, y := range wrong() {
		wantSize(t, y, 0)
	}
	for _, kind := range noKinds {
		wantSize(t, api.Symbol{Kind: kind}, 0)
		wantSize(t, api.Symbol{Kind: kind, Byte: 5, Len: 2, Dist: 1}, 0)
		wantSize(t, api.Symbol{Kind: kind, Len: greatest, Dist: least}, 0)
	}
}

// P13.3: Apply answers as many bytes as Size says, and so many come into the window.
func TestApplyMakesSoMany(t *testing.T) {
	r := rand.New(rand.NewSource(1331))
	w, s := holding(t, 500, count(300)...), state.New()
	for range 2000 {
		y := chanceSymbol(r, 300)
		pos := w.Pos()
		b, next, errno := symbol.Apply(w, s, y)
		if n := symbol.Size(y); len(b) != n || w.Pos() != pos+n || errno != api.OK {
			t.Fatalf("%+v: %d bytes, from %d to %d; its size is %d; error %d", y, len(b), pos, w.Pos(), n, errno)
		}
		s = next
	}
}

// P13.4: of no bytes, of some, of all 256: a literal each, in their order, with nothing beside its byte; and back.
func TestLiterals(t *testing.T) {
	every := make([]byte, 256)
	for i := range every {
		every[i] = byte(i)
	}
	for _, b := range [][]byte{nil, {}, {0}, {255}, []byte("pith"), every, bytes.Repeat(every, 30), make([]byte, 3, 50)} {
		l := symbol.Literals(b)
		if len(l) != len(b) {
			t.Fatalf("%d literals of %d bytes", len(l), len(b))
		}
		for i, c := range b {
			if l[i] != lit(c) {
				t.Errorf("the literal %d is %+v, want %+v", i, l[i], lit(c))
			}
		}
		for _, dict := range []int{1, 2, 255, 4096, api.MaxTold} {
			wantRow(t, dict, string(b), l...)
		}
	}
}
