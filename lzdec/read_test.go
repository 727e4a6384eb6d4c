package lzdec_test

import (
	"bytes"

	"pith/api"
	"pith/prob"
	"pith/state"
	"pith/symbol"
)

// meter: a range decoder by the words of chapter 8. A loose one does not look at direct bits that no encoder makes, and reckons on, modulo 2^32; where its bytes end, more come, if there is one who gives them.
type meter struct {
	b           []byte
	used        int
	span, code  uint32
	loose, fail bool
	more        func() byte
	odd         bool // has a direct bit been met that no encoder makes?
}

func (m *meter) begin() {
	m.used, m.span, m.fail, m.odd = 1, 1<<32-1, len(m.b) < 5 || m.b[0] != 0, false
	if m.fail {
		return
	}
	for range 4 {
		m.next()
	}
	m.fail = m.code == m.span
}

func (m *meter) next() {
	if m.used == len(m.b) && m.more != nil {
		m.b = append(m.b, m.more())
	}
	if m.used == len(m.b) {
		m.fail = true
		return
	}
	m.code = m.code<<8 | uint32(m.b[m.used])
	m.used++
}

func (m *meter) widen() {
	if m.span < 1<<24 {
		m.span <<= 8
		m.next()
	}
}

func (m *meter) bit(s *prob.Set) int {
	p, _ := s.At(0)
	bound := m.span >> 11 * uint32(p)
	bit := 0
	if m.code < bound {
		m.span = bound
	} else {
		m.code, m.span, bit = m.code-bound, m.span-bound, 1
	}
	m.widen()
	s.Turn(0, bit)
	return bit
}

func (m *meter) direct() int {
	m.span /= 2
	bit := 0
	if m.code >= m.span {
		m.code, bit = m.code-m.span, 1
	}
	if m.code >= m.span {
		m.odd = true
		m.fail = m.fail || !m.loose
	}
	m.widen()
	return bit
}

// done: are all bytes read, and is the code 0?
func (m *meter) done() bool { return !m.fail && m.used == len(m.b) && m.code == 0 }

// reader: the way back by the words of chapter 14, over a meter.
type reader struct {
	words
	in *meter
}

func newReader(p api.Props, dict int) *reader { return &reader{words: newWords(p, dict)} }

// read: what Take should answer of these bytes, or that it should refuse them.
func (r *reader) read(b []byte, n int) ([]api.Symbol, []byte, bool) {
	r.in = &meter{b: bytes.Clone(b)}
	r.in.begin()
	return r.row(n)
}

// row: symbols that make n bytes, from the meter as it stands.
func (r *reader) row(n int) ([]api.Symbol, []byte, bool) {
	var l []api.Symbol
	came := len(r.came)
	for left := n; left > 0; {
		y, ok := r.one(left)
		if !ok {
			return nil, nil, false
		}
		l, left = append(l, y), n-(len(r.came)-came)
	}
	return l, r.came[came:], r.in.done()
}

// one: a symbol that makes no more than so many bytes, which is applied.
func (r *reader) one(left int) (api.Symbol, bool) {
	if r.in.fail {
		return api.Symbol{}, false
	}
	y := r.symbol()
	ok := !r.in.fail && symbol.Size(y) <= left && r.apply(y)
	return y, ok
}

func (r *reader) bit(of string, a, b int) int { return r.in.bit(r.odd(of, a, b)) }

func (r *reader) tree(of string, a, n int) int {
	m := 1
	for range n {
		m = 2*m + r.bit(of, a, m)
	}
	return m - 1<<n
}

func (r *reader) backTree(of string, a, n int) int {
	m, v := 1, 0
	for i := range n {
		bit := r.bit(of, a, m)
		m, v = 2*m+bit, v+bit<<i
	}
	return v
}

func (r *reader) symbol() api.Symbol {
	n, ps := r.s.Num, r.place()
	if r.bit("IsMatch", n, ps) == 0 {
		return lit(r.literal())
	}
	if r.bit("IsRep", n, 0) == 0 {
		long := r.length("Match", ps)
		return match(long, r.distance(long))
	}
	if r.bit("IsRep0", n, 0) == 0 {
		if r.bit("IsLong", n, ps) == 0 {
			return short()
		}
		return rep(r.length("Rep", ps), 0)
	}
	if r.bit("IsRep1", n, 0) == 0 {
		return rep(r.length("Rep", ps), 1)
	}
	i := 2 + r.bit("IsRep2", n, 0)
	return rep(r.length("Rep", ps), i)
}

func (r *reader) literal() byte {
	c := r.words.row()
	if r.s.Num < 7 {
		return byte(r.tree("Literal", c, 8))
	}
	t, m, same := int(r.back(r.s.Reps[0])), 1, true
	for i := 7; i >= 0; i-- {
		u, bit := t>>i&1, 0
		if same {
			bit = r.bit("Literal", c, 256*(1+u)+m)
		} else {
			bit = r.bit("Literal", c, m)
		}
		m, same = 2*m+bit, same && bit == u
	}
	return byte(m - 256)
}

func (r *reader) length(of string, ps int) int {
	if r.bit(of+" Choice", 0, 0) == 0 {
		return 2 + r.tree(of+" Low", ps, 3)
	}
	if r.bit(of+" Choice2", 0, 0) == 0 {
		return 10 + r.tree(of+" Mid", ps, 3)
	}
	return 18 + r.tree(of+" High", 0, 8)
}

func (r *reader) distance(long int) int {
	slot := r.tree("Slot", min(3, long-2), 6)
	low, b, _ := state.Range(slot)
	switch {
	case slot < 4:
		return low
	case slot < 14:
		return low + r.backTree("Rest", slot, b)
	}
	v := 0
	for range b - 4 {
		v = 2*v + r.in.direct()
	}
	return low + v*16 + r.backTree("Align", 0, 4)
}
