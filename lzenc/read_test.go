package lzenc_test

import (
	"testing"

	"pith/api"
	"pith/rcdec"
	"pith/state"
)

// reader: the way back by the words of the chapter, over rcdec: a twin that reads instead of coding.
type reader struct {
	*twin
	t *testing.T
	d *rcdec.Decoder
}

func newReader(t *testing.T, p api.Props, dict int) *reader {
	return &reader{twin: newTwin(p, dict), t: t}
}

// begin: at the front of what a Cut answered.
func (r *reader) begin(b []byte) {
	r.t.Helper()
	d, errno := rcdec.New(b)
	if errno != api.OK {
		r.t.Fatalf("% X: error %d", b, errno)
	}
	r.d = d
}

func (r *reader) bit(of string, a, b int) int {
	r.t.Helper()
	bit, errno := r.d.Bit(r.odd(name{of, a, b}), 0)
	if errno != api.OK {
		r.t.Fatalf("a bit by %s[%d][%d]: error %d", of, a, b, errno)
	}
	return bit
}

func (r *reader) tree(of string, a, n int) int {
	m := 1
	for range n {
		m = 2*m + r.bit(of, a, m)
	}
	return m - 1<<n
}

func (r *reader) backTree(of string, a, n int) int {
	m, v := 1, 0
	for i := range n {
		bit := r.bit(of, a, m)
		m, v = 2*m+bit, v+bit<<i
	}
	return v
}

// next: the next symbol, which is applied.
func (r *reader) next() api.Symbol {
	r.t.Helper()
	y := r.symbol()
	if errno := r.refuses(y); errno != api.OK {
		r.t.Fatalf("read %+v: error %d", y, errno)
	}
	r.apply(y)
	return y
}

func (r *reader) symbol() api.Symbol {
	n, ps := r.s.Num, r.place()
	if r.bit("IsMatch", n, ps) == 0 {
		return lit(r.literal())
	}
	if r.bit("IsRep", n, 0) == 0 {
		long := r.length("Match", ps)
		return match(long, r.distance(long))
	}
	if r.bit("IsRep0", n, 0) == 0 {
		if r.bit("IsLong", n, ps) == 0 {
			return short()
		}
		return rep(r.length("Rep", ps), 0)
	}
	if r.bit("IsRep1", n, 0) == 0 {
		return rep(r.length("Rep", ps), 1)
	}
	i := 2 + r.bit("IsRep2", n, 0)
	return rep(r.length("Rep", ps), i)
}

func (r *reader) literal() byte {
	c := r.row()
	if r.s.Num < 7 {
		return byte(r.tree("Literal", c, 8))
	}
	t, m, same := int(r.back(r.s.Reps[0])), 1, true
	for i := 7; i >= 0; i-- {
		u, bit := t>>i&1, 0
		if same {
			bit = r.bit("Literal", c, 256*(1+u)+m)
		} else {
			bit = r.bit("Literal", c, m)
		}
		m, same = 2*m+bit, same && bit == u
	}
	return byte(m - 256)
}

func (r *reader) length(of string, ps int) int {
	if r.bit(of+" Choice", 0, 0) == 0 {
		return 2 + r.tree(of+" Low", ps, 3)
	}
	if r.bit(of+" Choice2", 0, 0) == 0 {
		return 10 + r.tree(of+" Mid", ps, 3)
	}
	return 18 + r.tree(of+" High", 0, 8)
}

func (r *reader) distance(long int) int {
	slot := r.tree("Slot", min(3, long-2), 6)
	low, b, _ := state.Range(slot)
	switch {
	case slot < 4:
		return low
	case slot < 14:
		return low + r.backTree("Rest", slot, b)
	}
	v, errno := r.d.Direct(b - 4)
	if errno != api.OK {
		r.t.Fatalf("%d direct bits: error %d", b-4, errno)
	}
	return low + int(v)*16 + r.backTree("Align", 0, 4)
}

// plain: the symbol with zeros where its kind does not look.
func plain(y api.Symbol) api.Symbol {
	switch y.Kind {
	case api.SymLit:
		return lit(y.Byte)
	case api.SymShort:
		return short()
	}
	y.Byte = 0
	return y
}
