package lzdec_test

import (
	"bytes"
	"math/rand"
	"slices"
	"testing"

	"pith/api"
	"pith/lzdec"
	"pith/prob"
	"pith/rcenc"
	"pith/symbol"
)

// The greatest and the least int.
const (
	greatest = 1<<63 - 1
	least    = -1 << 63
)

// usual: the properties of the chapter's examples.
var usual = api.Props{LC: 3, PB: 2}

// lengths: of matches and reps: the edges of Low, Mid and High, and some between.
var lengths = []int{2, 3, 4, 5, 6, 9, 10, 17, 18, 19, 100, 272, 273}

func lit(b byte) api.Symbol { return api.Symbol{Kind: api.SymLit, Byte: b} }

func match(n, dist int) api.Symbol { return api.Symbol{Kind: api.SymMatch, Len: n, Dist: dist} }

func rep(n, i int) api.Symbol { return api.Symbol{Kind: api.SymRep, Len: n, Dist: i} }

func short() api.Symbol { return api.Symbol{Kind: api.SymShort} }

// plain: the symbol with zeros where its kind does not look.
func plain(y api.Symbol) api.Symbol {
	switch y.Kind {
	case api.SymLit:
		return lit(y.Byte)
	case api.SymShort:
		return short()
	}
	y.Byte = 0
	return y
}

func allPlain(l []api.Symbol) []api.Symbol {
	clean := make([]api.Symbol, len(l))
	for i, y := range l {
		clean[i] = plain(y)
	}
	return clean
}

// size: how many bytes a row makes.
func size(l []api.Symbol) int {
	n := 0
	for _, y := range l {
		n += symbol.Size(y)
	}
	return n
}

// allProps: all properties that are allowed.
func allProps() []api.Props {
	var all []api.Props
	for lc := range 5 {
		for lp := range 5 - lc {
			for pb := range 5 {
				all = append(all, api.Props{LC: lc, LP: lp, PB: pb})
			}
		}
	}
	return all
}

// boundProps: those at their bounds, and the usual ones.
var boundProps = []api.Props{{}, {LC: 4}, {LP: 4}, {PB: 4}, {LC: 4, PB: 4}, {LP: 4, PB: 4}, {LC: 2, LP: 2, PB: 4}, {LC: 3, LP: 1, PB: 2}, {LC: 1, LP: 3}, {LC: 3, PB: 2}}

// wrongProps: such as are not allowed, just beyond the bounds and far.
var wrongProps = []api.Props{
	{LC: -1}, {LP: -1}, {PB: -1}, {LC: 5}, {LP: 5}, {PB: 5}, {LC: 4, LP: 1}, {LC: 1, LP: 4}, {LC: 3, LP: 2}, {LC: 2, LP: 3, PB: 4}, {LC: 5, LP: -1}, {LC: -1, LP: 5},
	{LC: greatest}, {LP: greatest}, {PB: greatest}, {LC: least}, {LP: least}, {PB: least}, {LC: greatest, LP: greatest}, {LC: greatest, LP: 1}, {LC: least, LP: least},
	{LC: 1 << 32}, {LP: 1 << 32}, {PB: 1 << 32}, {LC: 256}, {PB: 64},
}

// wrongSizes: numbers of bytes that Take refuses.
var wrongSizes = []int{0, -1, -2, api.MaxChunk + 1, api.MaxChunk + 2, 1 << 32, 1<<32 + 1, -1<<32 + 1, least, least + 1, greatest}

// count: n bytes that differ from their neighbours.
func count(n int) []byte {
	b := make([]byte, n)
	for i := range b {
		b[i] = byte(i%251 + 1)
	}
	return b
}

// coded: the bytes of bits, each by a probability that is Half (0, 1) or by none (o, i); blanks are for the eye.
func coded(bits string) []byte {
	e := rcenc.New()
	for _, c := range bits {
		s, _ := prob.New(1)
		switch c {
		case '0', '1':
			e.Bit(s, 0, int(c-'0'))
		case 'o':
			e.Direct(0, 1)
		case 'i':
			e.Direct(1, 1)
		}
	}
	return e.Bytes()
}

// made: a decoder.
func made(t *testing.T, p api.Props, dict int) *lzdec.Decoder {
	t.Helper()
	d, errno := lzdec.New(p, dict)
	if d == nil || errno != api.OK {
		t.Fatalf("New(%+v, %d): error %d", p, dict, errno)
	}
	return d
}

// wantTaken: these bytes are taken as these symbols, which make these bytes.
func wantTaken(t *testing.T, d *lzdec.Decoder, packed []byte, l []api.Symbol, data []byte) {
	t.Helper()
	got, b, errno := d.Take(packed, len(data))
	if errno != api.OK || !slices.Equal(got, l) || !bytes.Equal(b, data) {
		t.Fatalf("Take(% X, %d): %+v, % X, error %d; want %+v, % X", packed, len(data), got, b, errno, l, data)
	}
}

// wantRefused: with this error, and nothing else.
func wantRefused(t *testing.T, d *lzdec.Decoder, packed []byte, n int, want api.Errno) {
	t.Helper()
	if l, b, errno := d.Take(packed, n); len(l) > 0 || len(b) > 0 || errno != want {
		t.Fatalf("Take(% X, %d): %+v, % X, error %d; want error %d", packed, n, l, b, errno, want)
	}
}

// pair: a decoder, and beside it one who writes by the words of chapter 14 and is told the same.
type pair struct {
	d *lzdec.Decoder
	w *scribe
}

func newPair(t *testing.T, p api.Props, dict int) *pair {
	t.Helper()
	return &pair{made(t, p, dict), newScribe(p, dict)}
}

// take: the row is written, cut and taken. A row of no bytes is none that Take takes.
func (a *pair) take(t *testing.T, l ...api.Symbol) {
	t.Helper()
	if len(l) == 0 {
		return
	}
	came := len(a.w.came)
	a.w.put(t, l...)
	wantTaken(t, a.d, a.w.cut(), allPlain(l), a.w.came[came:])
}

func (a *pair) raw(b ...byte) {
	a.d.Raw(b...)
	a.w.came = append(a.w.came, b...)
}

func (a *pair) reset(t *testing.T, p api.Props) {
	t.Helper()
	if errno := a.d.Reset(p); errno != api.OK {
		t.Fatalf("Reset(%+v): error %d", p, errno)
	}
	a.w.p = p
	a.w.forget()
}

func (a *pair) clear() {
	a.d.Clear()
	a.w.forget()
	a.w.came = nil
}

// same: the decoder goes on just as the scribe does: rows of all kinds are taken, with the edges of this dictionary, then such as chance gives.
func (a *pair) same(t *testing.T) {
	t.Helper()
	a.take(t, lit(0x5A), short(), lit(0xA5), rep(3, 0), lit(7))
	a.take(t, match(5, a.w.held()), lit(9), rep(12, 1), rep(40, 2), rep(2, 3), match(2, 1), short(), lit(0))
	r := rand.New(rand.NewSource(15))
	for range 3 {
		a.take(t, a.w.chance(r, 20)...)
	}
}

// situations: decoders of which much is known, made each time anew: new ones, behind raw bytes, behind symbols of each kind, with dictionaries that are full, begun anew.
var situations = map[string]func(t *testing.T) *pair{
	"new":         func(t *testing.T) *pair { return newPair(t, usual, 4096) },
	"new, a byte": func(t *testing.T) *pair { return newPair(t, api.Props{LP: 4, PB: 4}, 1) },
	"raw": func(t *testing.T) *pair {
		a := newPair(t, api.Props{LC: 1, LP: 1, PB: 1}, 4096)
		a.raw(count(301)...)
		return a
	},
	"full": func(t *testing.T) *pair {
		a := newPair(t, api.Props{}, 3)
		a.raw(1, 2)
		a.take(t, lit(3), lit(4), match(4, 3), lit(5))
		return a
	},
	"a literal": func(t *testing.T) *pair {
		a := newPair(t, usual, 4096)
		a.take(t, lit('a'))
		return a
	},
	"a match": func(t *testing.T) *pair {
		a := newPair(t, usual, 50)
		a.take(t, lit('a'), lit('b'), lit('c'))
		a.take(t, match(9, 2), match(60, 3))
		return a
	},
	"many": func(t *testing.T) *pair {
		a := newPair(t, api.Props{LC: 2, LP: 2, PB: 4}, 400)
		r := rand.New(rand.NewSource(1501))
		for range 10 {
			a.take(t, a.w.chance(r, 40)...)
		}
		return a
	},
	"reset": func(t *testing.T) *pair {
		a := newPair(t, usual, 200)
		a.take(t, lit(1), lit(2), match(30, 2), rep(5, 1))
		a.reset(t, api.Props{LC: 1, PB: 3})
		return a
	},
	"cleared": func(t *testing.T) *pair {
		a := newPair(t, usual, 200)
		a.take(t, lit(1), lit(2), match(30, 2), rep(5, 1))
		a.clear()
		return a
	},
}
