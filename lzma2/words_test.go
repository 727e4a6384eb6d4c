package lzma2_test

import (
	"math/rand"

	"pith/api"
	"pith/lzdec"
	"pith/lzenc"
	"pith/parse"
	"pith/state"
	"pith/symbol"
	"pith/window"
)

// What the chapter's words say, said once more: rows written and read sentence by sentence.

// headByWords: a chunk's head, of the document's words.
func headByWords(kind, size, packed int, p api.Props) []byte {
	s, k := size-1, packed-1
	if isRaw(kind) {
		return []byte{byte(kind), byte(s >> 8), byte(s)}
	}
	b := []byte{byte(128 + 32*(kind-3) + s>>16), byte(s >> 8), byte(s), byte(k >> 8), byte(k)}
	if hasProps(kind) {
		b = append(b, byte((p.PB*5+p.LP)*9+p.LC))
	}
	return b
}

// encodeByWords: the row that a configuration makes; what is tried is tried by a fork, which is let go if the try is not kept.
func encodeByWords(data []byte, c api.Config) []byte {
	e, _ := lzenc.New(c.Props, c.Dict)
	var row []byte
	before, packedCame, s := -1, false, state.New()
	for from := 0; from < len(data); from += 65536 {
		to := min(len(data), from+65536)
		kind := 5
		switch {
		case from == 0:
			kind = 6
		case before >= 3:
			kind = 3
		case packedCame:
			kind = 4
		}
		if chunk, try, behind := tryByWords(e, data, from, to, c, kind, s); chunk != nil {
			row = append(row, chunk...)
			e, s, before, packedCame = try, behind, kind, true
			continue
		}
		before = 2
		if from == 0 {
			before = 1
		}
		row = append(row, headByWords(before, to-from, to-from, c.Props)...)
		row = append(row, data[from:to]...)
		e.Raw(data[from:to]...)
	}
	return append(row, 0)
}

// tryByWords: the chunk of a try that is kept, the encoder that went on and the state behind; or nothing.
func tryByWords(e *lzenc.Encoder, data []byte, from, to int, c api.Config, kind int, s state.State) ([]byte, *lzenc.Encoder, state.State) {
	if c.Mode == api.ModeRaw {
		return nil, nil, s
	}
	try := e.Fork()
	if kind != 3 {
		try.Reset(c.Props)
		s = state.New()
	}
	symbols := parse.Greedy
	if c.Mode == api.ModeCheap {
		symbols = parse.Cheap
	}
	l, behind, _ := symbols(data, from, to, c.Dict, s)
	for _, y := range l {
		try.Put(y)
	}
	body := try.Cut()
	if len(body) > 65536 {
		return nil, nil, s
	}
	chunk := append(headByWords(kind, to-from, len(body), c.Props), body...)
	if len(chunk) >= 3+to-from {
		return nil, nil, s
	}
	return chunk, try, behind
}

// readRow: what is read of a row, or the fault.
type readRow struct {
	data  []byte
	heads []api.Chunk
	all   [][]api.Symbol
	n     int
	errno api.Errno
}

// readByWords: to read a row, line by line of the table. If blind, the chunks' bytes are not looked at.
func readByWords(b []byte, dict, packed, size int, blind bool) readRow {
	d, _ := lzdec.New(api.Props{}, dict)
	var r readRow
	at := 0
	begun, props, told := false, false, api.Props{}
	fault := func(errno api.Errno, at int) readRow { return readRow{n: at, errno: errno} }
	for {
		if packed >= 0 && at >= packed {
			return fault(api.ErrFormat, at)
		}
		if at >= len(b) {
			return fault(api.ErrTruncated, at)
		}
		first := int(b[at])
		if first >= 3 && first <= 127 {
			return fault(api.ErrFormat, at)
		}
		kind := first
		if first >= 128 {
			kind = 3 + (first-128)/32
		}
		if kind != 0 && kind != 1 && kind != 6 && !begun || (kind == 3 || kind == 4) && !props {
			return fault(api.ErrFormat, at)
		}
		if kind == 0 && (packed >= 0 && packed != at+1 || size >= 0 && size != len(r.data)) {
			return fault(api.ErrFormat, at)
		}
		long := []int{1, 3, 3, 5, 5, 6, 6}[kind]
		if len(b)-at < long {
			return fault(api.ErrTruncated, at)
		}
		if kind == 0 {
			r.heads = append(r.heads, api.Chunk{})
			r.n = at + 1
			return r
		}
		c := api.Chunk{Kind: kind, Size: int(b[at+1])*256 + int(b[at+2]) + 1}
		c.Packed = c.Size
		if kind >= 3 {
			c.Size += first % 32 * 65536
			c.Packed = int(b[at+3])*256 + int(b[at+4]) + 1
		}
		if hasProps(kind) {
			x := int(b[at+5])
			c.Props = api.Props{LC: x % 9, LP: x / 9 % 5, PB: x / 45}
			if c.Props.LC+c.Props.LP > 4 || c.Props.PB > 4 {
				return fault(api.ErrFormat, at)
			}
			told = c.Props
		}
		body := at + long
		if packed >= 0 && body+c.Packed > packed || size >= 0 && len(r.data)+c.Size > size {
			return fault(api.ErrFormat, at)
		}
		if len(b)-body < c.Packed {
			return fault(api.ErrTruncated, body)
		}
		begun = true
		props = kind != 1 && (props || hasProps(kind))
		at = body + c.Packed
		r.heads = append(r.heads, c)
		if blind {
			continue
		}
		if kind == 1 || kind == 6 {
			d.Clear()
		}
		if kind >= 4 {
			d.Reset(told)
		}
		if kind <= 2 {
			d.Raw(b[body:at]...)
			r.data, r.all = append(r.data, b[body:at]...), append(r.all, nil)
			continue
		}
		l, plain, errno := d.Take(b[body:at], c.Size)
		if errno != api.OK {
			return fault(api.ErrFormat, body)
		}
		r.data, r.all = append(r.data, plain...), append(r.all, l)
	}
}

// author: writes parts by chance, such as Build takes, and knows what they mean.
type author struct {
	r            *rand.Rand
	w            *window.Window
	s            state.State
	begun, props bool
	parts        []api.Part
	data         []byte
	all          [][]api.Symbol
}

func newAuthor(seed int64, dict int) *author {
	w, _ := window.New(dict)
	return &author{r: rand.New(rand.NewSource(seed)), w: w}
}

// more: so many parts more, with anything where their kinds do not look.
func (a *author) more(n int) {
	for range n {
		part := api.Part{Kind: a.kind(), Props: noProps[a.r.Intn(len(noProps))], Raw: []byte("not looked at"), Symbols: []api.Symbol{{Kind: 9}}}
		if hasProps(part.Kind) {
			part.Props = someProps[a.r.Intn(len(someProps))]
		}
		a.begin(part.Kind)
		if isRaw(part.Kind) {
			part.Raw = a.bytes(1 + a.r.Intn(60))
			a.w.Put(part.Raw...)
			a.data, a.all = append(a.data, part.Raw...), append(a.all, nil)
		} else {
			part.Symbols = a.symbols(1 + a.r.Intn(30))
			a.all = append(a.all, clean(part.Symbols))
		}
		a.parts = append(a.parts, part)
	}
}

// kind: one that may follow.
func (a *author) kind() int {
	switch {
	case !a.begun:
		return []int{1, 6}[a.r.Intn(2)]
	case !a.props:
		return []int{1, 2, 2, 5, 5, 6}[a.r.Intn(6)]
	}
	return []int{1, 2, 2, 3, 3, 3, 4, 4, 5, 5, 6}[a.r.Intn(11)]
}

func (a *author) begin(kind int) {
	if kind == 1 || kind == 6 {
		a.w.Clear()
	}
	if kind >= 4 {
		a.s = state.New()
	}
	a.begun = true
	a.props = kind != 1 && (a.props || hasProps(kind))
}

func (a *author) bytes(n int) []byte {
	b := make([]byte, n)
	for i := range b {
		b[i] = "aab\x00"[a.r.Intn(4)] + byte(a.r.Intn(2)*a.r.Intn(256))
	}
	return b
}

// symbols: n of them at the most, and one at least, such as may be put here.
func (a *author) symbols(n int) []api.Symbol {
	var l []api.Symbol
	for len(l) == 0 {
		for range n {
			y := a.symbol()
			b, next, errno := symbol.Apply(a.w, a.s, y)
			if errno == api.OK {
				a.s = next
				a.data, l = append(a.data, b...), append(l, y)
			}
		}
	}
	return l
}

func (a *author) symbol() api.Symbol {
	y := api.Symbol{Kind: 1 + a.r.Intn(4), Byte: a.bytes(1)[0], Len: 2 + a.r.Intn(9), Dist: a.r.Intn(4)}
	if a.r.Intn(8) == 0 {
		y.Len = []int{2, 9, 10, 17, 18, 100, 273}[a.r.Intn(7)]
	}
	if y.Kind == api.SymMatch {
		y.Dist = 1 + a.r.Intn(max(1, a.w.Full()))
	}
	return y
}

// greedy: the symbols of all data from the front.
func greedy(data []byte, dict int) ([]api.Symbol, state.State, api.Errno) {
	return parse.Greedy(data, 0, len(data), dict, state.New())
}
