package lzdec_test

import (
	"math/rand"
	"testing"

	"pith/api"
	"pith/prob"
	"pith/rcenc"
	"pith/state"
)

// name: a probability: what chapter 14's table calls it, and its numbers there; of a tree the last number is the place on the way.
type name struct {
	of   string
	a, b int
}

// words: a coder by the words of chapter 14, with each probability in a row of its own, found by its name.
type words struct {
	p    api.Props
	dict int
	came []byte
	s    state.State
	odds map[name]*prob.Set
}

func newWords(p api.Props, dict int) words {
	return words{p: p, dict: dict, s: state.New(), odds: map[name]*prob.Set{}}
}

func (w *words) odd(of string, a, b int) *prob.Set {
	by := name{of, a, b}
	if w.odds[by] == nil {
		w.odds[by], _ = prob.New(1)
	}
	return w.odds[by]
}

func (w *words) forget() { w.s, w.odds = state.New(), map[name]*prob.Set{} }

// held: how many bytes the dictionary holds.
func (w *words) held() int { return min(w.dict, len(w.came)) }

func (w *words) back(dist int) byte { return w.came[len(w.came)-dist] }

// place: the place state.
func (w *words) place() int { return len(w.came) % (1 << w.p.PB) }

// row: the number of a literal's row.
func (w *words) row() int {
	before := 0
	if len(w.came) > 0 {
		before = int(w.back(1))
	}
	return len(w.came)%(1<<w.p.LP)*(1<<w.p.LC) + before/(1<<(8-w.p.LC))
}

// meant: the distance and the length of a formed symbol; of a literal the distance is 0.
func (w *words) meant(y api.Symbol) (dist, n int) {
	switch y.Kind {
	case api.SymLit:
		return 0, 1
	case api.SymMatch:
		return y.Dist, y.Len
	case api.SymRep:
		return w.s.Reps[y.Dist], y.Len
	}
	return w.s.Reps[0], 1
}

// apply: what a symbol makes comes into the dictionary, and the state moves; if it may be applied.
func (w *words) apply(y api.Symbol) bool {
	next, errno := w.s.Next(y)
	if errno != api.OK {
		return false
	}
	dist, n := w.meant(y)
	if dist > w.held() {
		return false
	}
	for range n {
		b := y.Byte
		if dist > 0 {
			b = w.back(dist)
		}
		w.came = append(w.came, b)
	}
	w.s = next
	return true
}

// scribe: writes symbols as bits, also such as no encoder takes. It reckons beside the range encoder how wide the range is.
type scribe struct {
	words
	out  *rcenc.Encoder
	span uint32
}

// widest: the range at the beginning.
const widest = 1<<32 - 1

func newScribe(p api.Props, dict int) *scribe {
	return &scribe{newWords(p, dict), rcenc.New(), widest}
}

// put: symbols that may be applied.
func (w *scribe) put(t *testing.T, l ...api.Symbol) {
	t.Helper()
	for i, y := range l {
		w.write(y)
		if !w.apply(y) {
			t.Fatalf("the symbol %d, %+v, is none that can be put", i, y)
		}
	}
}

func (w *scribe) cut() []byte {
	b := w.out.Bytes()
	w.out, w.span = rcenc.New(), widest
	return b
}

func (w *scribe) bit(bit int, of string, a, b int) {
	s := w.odd(of, a, b)
	p, _ := s.At(0)
	bound := w.span >> 11 * uint32(p)
	if bit == 0 {
		w.span = bound
	} else {
		w.span -= bound
	}
	w.widen()
	w.out.Bit(s, 0, bit)
}

func (w *scribe) widen() {
	for w.span < 1<<24 {
		w.span <<= 8
	}
}

func (w *scribe) direct(v, n int) {
	for i := n - 1; i >= 0; i-- {
		w.span /= 2
		w.widen()
		w.out.Direct(uint32(v>>i&1), 1)
	}
}

func (w *scribe) tree(of string, a, n, v int) {
	m := 1
	for i := n - 1; i >= 0; i-- {
		w.bit(v>>i&1, of, a, m)
		m = 2*m + v>>i&1
	}
}

func (w *scribe) backTree(of string, a, n, v int) {
	m := 1
	for i := range n {
		w.bit(v>>i&1, of, a, m)
		m = 2*m + v>>i&1
	}
}

// write: the bits of a symbol, whether or not it may be applied.
func (w *scribe) write(y api.Symbol) {
	n, ps := w.s.Num, w.place()
	if y.Kind == api.SymLit {
		w.bit(0, "IsMatch", n, ps)
		w.literal(int(y.Byte))
		return
	}
	w.bit(1, "IsMatch", n, ps)
	if y.Kind == api.SymMatch {
		w.bit(0, "IsRep", n, 0)
		w.length("Match", ps, y.Len)
		w.distance(y.Len, y.Dist)
		return
	}
	w.bit(1, "IsRep", n, 0)
	switch {
	case y.Kind == api.SymShort:
		w.bit(0, "IsRep0", n, 0)
		w.bit(0, "IsLong", n, ps)
		return
	case y.Dist == 0:
		w.bit(0, "IsRep0", n, 0)
		w.bit(1, "IsLong", n, ps)
	case y.Dist == 1:
		w.bit(1, "IsRep0", n, 0)
		w.bit(0, "IsRep1", n, 0)
	default:
		w.bit(1, "IsRep0", n, 0)
		w.bit(1, "IsRep1", n, 0)
		w.bit(y.Dist-2, "IsRep2", n, 0)
	}
	w.length("Rep", ps, y.Len)
}

func (w *scribe) literal(b int) {
	c := w.row()
	if w.s.Num < 7 {
		w.tree("Literal", c, 8, b)
		return
	}
	t, m, same := int(w.back(w.s.Reps[0])), 1, true
	for i := 7; i >= 0; i-- {
		bit, u := b>>i&1, t>>i&1
		if same {
			w.bit(bit, "Literal", c, 256*(1+u)+m)
		} else {
			w.bit(bit, "Literal", c, m)
		}
		m, same = 2*m+bit, same && bit == u
	}
}

func (w *scribe) length(of string, ps, n int) {
	x := n - 2
	switch {
	case x < 8:
		w.bit(0, of+" Choice", 0, 0)
		w.tree(of+" Low", ps, 3, x)
	case x < 16:
		w.bit(1, of+" Choice", 0, 0)
		w.bit(0, of+" Choice2", 0, 0)
		w.tree(of+" Mid", ps, 3, x-8)
	default:
		w.bit(1, of+" Choice", 0, 0)
		w.bit(1, of+" Choice2", 0, 0)
		w.tree(of+" High", 0, 8, x-16)
	}
}

// distance: up to MaxTold + 1, which has the last slot too.
func (w *scribe) distance(n, dist int) {
	slot, _ := state.Slot(min(dist, api.MaxTold))
	low, b, _ := state.Range(slot)
	w.tree("Slot", min(3, n-2), 6, slot)
	r := dist - low
	switch {
	case slot < 4:
	case slot < 14:
		w.backTree("Rest", slot, b, r)
	default:
		w.direct(r/16, b-4)
		w.backTree("Align", 0, 4, r%16)
	}
}

// chance: up to n symbols, whichever may be put one behind the other; with anything where their kinds do not look. Nothing is written.
func (w *words) chance(r *rand.Rand, n int) []api.Symbol {
	ahead := words{dict: w.dict, came: w.came[:len(w.came):len(w.came)], s: w.s}
	var l []api.Symbol
	for range n {
		if y := ahead.chanceSymbol(r); ahead.apply(y) {
			l = append(l, y)
		}
	}
	return l
}

func (w *words) chanceSymbol(r *rand.Rand) api.Symbol {
	y := api.Symbol{Kind: 1 + r.Intn(4), Byte: byte(r.Intn(256)), Len: 2 + r.Intn(12), Dist: r.Intn(4)}
	if r.Intn(3) == 0 {
		y.Byte = byte(r.Intn(3))
	}
	if r.Intn(6) == 0 {
		y.Len = lengths[r.Intn(len(lengths))]
	}
	if y.Kind != api.SymMatch {
		return y
	}
	full := max(1, w.held())
	switch r.Intn(4) {
	case 0:
		y.Dist = full
	case 1:
		y.Dist = 1 + r.Intn(full)
	default:
		y.Dist = 1 + r.Intn(1<<r.Intn(18))
	}
	return y
}
