package lzenc_test

import (
	"bytes"
	"maps"
	"math/rand"
	"slices"
	"testing"

	"pith/api"
	"pith/lzenc"
	"pith/prob"
	"pith/rcenc"
	"pith/state"
)

// The greatest and the least int.
const (
	greatest = 1<<63 - 1
	least    = -1 << 63
)

// usual: the properties of the chapter's examples.
var usual = api.Props{LC: 3, PB: 2}

// lengths: of matches and reps: the edges of Low, Mid and High, and some between.
var lengths = []int{2, 3, 4, 5, 6, 9, 10, 17, 18, 19, 100, 272, 273}

func lit(b byte) api.Symbol { return api.Symbol{Kind: api.SymLit, Byte: b} }

func match(n, dist int) api.Symbol { return api.Symbol{Kind: api.SymMatch, Len: n, Dist: dist} }

func rep(n, i int) api.Symbol { return api.Symbol{Kind: api.SymRep, Len: n, Dist: i} }

func short() api.Symbol { return api.Symbol{Kind: api.SymShort} }

// allProps: all properties that are allowed.
func allProps() []api.Props {
	var all []api.Props
	for lc := range 5 {
		for lp := range 5 - lc {
			for pb := range 5 {
				all = append(all, api.Props{LC: lc, LP: lp, PB: pb})
			}
		}
	}
	return all
}

// boundProps: those at their bounds.
var boundProps = []api.Props{{}, {LC: 4}, {LP: 4}, {PB: 4}, {LC: 4, PB: 4}, {LP: 4, PB: 4}, {LC: 2, LP: 2, PB: 4}, {LC: 3, LP: 1, PB: 2}, {LC: 1, LP: 3}, {LC: 3, PB: 2}}

// wrongProps: such as are not allowed, just beyond the bounds and far.
var wrongProps = []api.Props{
	{LC: -1}, {LP: -1}, {PB: -1}, {LC: 5}, {LP: 5}, {PB: 5}, {LC: 4, LP: 1}, {LC: 1, LP: 4}, {LC: 3, LP: 2}, {LC: 2, LP: 3, PB: 4}, {LC: 5, LP: -1}, {LC: -1, LP: 5},
	{LC: greatest}, {LP: greatest}, {PB: greatest}, {LC: least}, {LP: least}, {PB: least}, {LC: greatest, LP: greatest}, {LC: greatest, LP: 1}, {LC: least, LP: least},
	{LC: 1 << 32}, {LP: 1 << 32}, {PB: 1 << 32}, {LC: 256}, {PB: 64},
}

// stateWrong: symbols that every state refuses, with the error.
var stateWrong = []struct {
	y     api.Symbol
	errno api.Errno
}{
	{api.Symbol{}, api.ErrConfig}, {api.Symbol{Kind: 5, Len: 2, Dist: 1}, api.ErrConfig}, {api.Symbol{Kind: -1, Byte: 7}, api.ErrConfig}, {api.Symbol{Kind: greatest}, api.ErrConfig}, {api.Symbol{Kind: least}, api.ErrConfig}, {api.Symbol{Kind: 1<<32 + 1}, api.ErrConfig}, {api.Symbol{Kind: 257}, api.ErrConfig},
	{match(1, 1), api.ErrRange}, {match(0, 1), api.ErrRange}, {match(-2, 1), api.ErrRange}, {match(274, 1), api.ErrRange}, {match(greatest, 1), api.ErrRange}, {match(least, 1), api.ErrRange}, {match(1<<32+2, 1), api.ErrRange},
	{match(2, 0), api.ErrRange}, {match(2, -1), api.ErrRange}, {match(2, api.MaxTold+1), api.ErrRange}, {match(2, greatest), api.ErrRange}, {match(2, least), api.ErrRange}, {match(2, 1<<32+1), api.ErrRange},
	{rep(1, 0), api.ErrRange}, {rep(0, 0), api.ErrRange}, {rep(274, 0), api.ErrRange}, {rep(-1, 0), api.ErrRange}, {rep(greatest, 0), api.ErrRange}, {rep(least, 3), api.ErrRange},
	{rep(2, -1), api.ErrRange}, {rep(2, 4), api.ErrRange}, {rep(2, greatest), api.ErrRange}, {rep(2, least), api.ErrRange}, {rep(2, 1<<32), api.ErrRange},
	{match(1, api.MaxTold), api.ErrRange}, {match(274, api.MaxTold), api.ErrRange}, {rep(274, 4), api.ErrRange},
}

// count: n bytes that differ from their neighbours.
func count(n int) []byte {
	b := make([]byte, n)
	for i := range b {
		b[i] = byte(i%251 + 1)
	}
	return b
}

// name: a probability: what the chapter's table calls it, and its numbers there; of a tree the last number is the place on the way.
type name struct {
	of   string
	a, b int
}

// step: a bit of a symbol; direct: by no probability.
type step struct {
	by     name
	bit    int
	direct bool
}

// twin: a coder by the words of the chapter, with each probability in a row of its own, found by its name.
type twin struct {
	p    api.Props
	dict int
	came []byte
	s    state.State
	odds map[name]*prob.Set
	out  *rcenc.Encoder
}

func newTwin(p api.Props, dict int) *twin {
	return &twin{p: p, dict: dict, s: state.New(), odds: map[name]*prob.Set{}, out: rcenc.New()}
}

func (w *twin) odd(by name) *prob.Set {
	if w.odds[by] == nil {
		w.odds[by], _ = prob.New(1)
	}
	return w.odds[by]
}

func (w *twin) forget() { w.s, w.odds = state.New(), map[name]*prob.Set{} }

func (w *twin) fork() *twin {
	f := *w
	f.came, f.odds, f.out = bytes.Clone(w.came), map[name]*prob.Set{}, w.out.Fork()
	for by, s := range w.odds {
		f.odds[by] = s.Fork()
	}
	return &f
}

// held: how many bytes the dictionary holds.
func (w *twin) held() int { return min(w.dict, len(w.came)) }

func (w *twin) back(dist int) byte { return w.came[len(w.came)-dist] }

// meant: the distance and the length of a formed symbol; of a literal the distance is 0.
func (w *twin) meant(y api.Symbol) (dist, n int) {
	switch y.Kind {
	case api.SymLit:
		return 0, 1
	case api.SymMatch:
		return y.Dist, y.Len
	case api.SymRep:
		return w.s.Reps[y.Dist], y.Len
	}
	return w.s.Reps[0], 1
}

func (w *twin) refuses(y api.Symbol) api.Errno {
	if _, errno := w.s.Next(y); errno != api.OK {
		return errno
	}
	if dist, _ := w.meant(y); dist > w.held() {
		return api.ErrRange
	}
	return api.OK
}

// apply: what a symbol that is not refused makes comes into the dictionary, and the state moves.
func (w *twin) apply(y api.Symbol) {
	dist, n := w.meant(y)
	for range n {
		b := y.Byte
		if dist > 0 {
			b = w.back(dist)
		}
		w.came = append(w.came, b)
	}
	w.s, _ = w.s.Next(y)
}

func (w *twin) cost(y api.Symbol) int {
	sum := 0
	for _, k := range w.steps(y) {
		if k.direct {
			sum += 16
			continue
		}
		p, _ := w.odd(k.by).At(0)
		sum += prob.Cost(p, k.bit)
	}
	return sum
}

func (w *twin) put(y api.Symbol) {
	for _, k := range w.steps(y) {
		if k.direct {
			w.out.Direct(uint32(k.bit), 1)
			continue
		}
		w.out.Bit(w.odd(k.by), 0, k.bit)
	}
	w.apply(y)
}

func (w *twin) cut() []byte {
	b := w.out.Bytes()
	w.out = rcenc.New()
	return b
}

// spelling: a row of steps that grows.
type spelling []step

func (l *spelling) bit(bit int, of string, a, b int) {
	*l = append(*l, step{by: name{of, a, b}, bit: bit})
}

func (l *spelling) tree(of string, a, n, v int) {
	m := 1
	for i := n - 1; i >= 0; i-- {
		l.bit(v>>i&1, of, a, m)
		m = 2*m + v>>i&1
	}
}

func (l *spelling) backTree(of string, a, n, v int) {
	m := 1
	for i := range n {
		l.bit(v>>i&1, of, a, m)
		m = 2*m + v>>i&1
	}
}

// steps: the bits of a symbol that is not refused, in their order.
func (w *twin) steps(y api.Symbol) []step {
	var l spelling
	n, ps := w.s.Num, w.place()
	switch y.Kind {
	case api.SymLit:
		l.bit(0, "IsMatch", n, ps)
		w.literal(&l, int(y.Byte))
	case api.SymMatch:
		l.bit(1, "IsMatch", n, ps)
		l.bit(0, "IsRep", n, 0)
		length(&l, "Match", ps, y.Len)
		distance(&l, y.Len, y.Dist)
	case api.SymShort:
		l.bit(1, "IsMatch", n, ps)
		l.bit(1, "IsRep", n, 0)
		l.bit(0, "IsRep0", n, 0)
		l.bit(0, "IsLong", n, ps)
	case api.SymRep:
		l.bit(1, "IsMatch", n, ps)
		l.bit(1, "IsRep", n, 0)
		switch y.Dist {
		case 0:
			l.bit(0, "IsRep0", n, 0)
			l.bit(1, "IsLong", n, ps)
		case 1:
			l.bit(1, "IsRep0", n, 0)
			l.bit(0, "IsRep1", n, 0)
		default:
			l.bit(1, "IsRep0", n, 0)
			l.bit(1, "IsRep1", n, 0)
			l.bit(y.Dist-2, "IsRep2", n, 0)
		}
		length(&l, "Rep", ps, y.Len)
	}
	return l
}

// place: the place state.
func (w *twin) place() int { return len(w.came) % (1 << w.p.PB) }

// row: the number of a literal's row, c.
func (w *twin) row() int {
	before := 0
	if len(w.came) > 0 {
		before = int(w.back(1))
	}
	return len(w.came)%(1<<w.p.LP)*(1<<w.p.LC) + before/(1<<(8-w.p.LC))
}

func (w *twin) literal(l *spelling, b int) {
	c := w.row()
	if w.s.Num < 7 {
		l.tree("Literal", c, 8, b)
		return
	}
	t, m, same := int(w.back(w.s.Reps[0])), 1, true
	for i := 7; i >= 0; i-- {
		bit, u := b>>i&1, t>>i&1
		if same {
			l.bit(bit, "Literal", c, 256*(1+u)+m)
		} else {
			l.bit(bit, "Literal", c, m)
		}
		m, same = 2*m+bit, same && bit == u
	}
}

func length(l *spelling, of string, ps, n int) {
	x := n - 2
	switch {
	case x < 8:
		l.bit(0, of+" Choice", 0, 0)
		l.tree(of+" Low", ps, 3, x)
	case x < 16:
		l.bit(1, of+" Choice", 0, 0)
		l.bit(0, of+" Choice2", 0, 0)
		l.tree(of+" Mid", ps, 3, x-8)
	default:
		l.bit(1, of+" Choice", 0, 0)
		l.bit(1, of+" Choice2", 0, 0)
		l.tree(of+" High", 0, 8, x-16)
	}
}

func distance(l *spelling, n, dist int) {
	slot, _ := state.Slot(dist)
	low, b, _ := state.Range(slot)
	l.tree("Slot", min(3, n-2), 6, slot)
	r := dist - low
	switch {
	case slot < 4:
	case slot < 14:
		l.backTree("Rest", slot, b, r)
	default:
		for i := b - 5; i >= 0; i-- {
			*l = append(*l, step{bit: r / 16 >> i & 1, direct: true})
		}
		l.backTree("Align", 0, 4, r%16)
	}
}

// made: an encoder.
func made(t *testing.T, p api.Props, dict int) *lzenc.Encoder {
	t.Helper()
	e, errno := lzenc.New(p, dict)
	if e == nil || errno != api.OK {
		t.Fatalf("New(%+v, %d): error %d", p, dict, errno)
	}
	return e
}

func wantCost(t *testing.T, e *lzenc.Encoder, y api.Symbol, want int) {
	t.Helper()
	if n, errno := e.Cost(y); n != want || errno != api.OK {
		t.Errorf("the cost of %+v is %d, error %d; want %d", y, n, errno, want)
	}
}

func wantPut(t *testing.T, e *lzenc.Encoder, l ...api.Symbol) {
	t.Helper()
	for i, y := range l {
		if errno := e.Put(y); errno != api.OK {
			t.Fatalf("the symbol %d, %+v: error %d", i, y, errno)
		}
	}
}

// wantRefused: by Cost and by Put.
func wantRefused(t *testing.T, e *lzenc.Encoder, y api.Symbol, want api.Errno) {
	t.Helper()
	if n, errno := e.Cost(y); n != 0 || errno != want {
		t.Errorf("Cost of %+v: %d, error %d; want error %d", y, n, errno, want)
	}
	if errno := e.Put(y); errno != want {
		t.Errorf("Put of %+v: error %d, want %d", y, errno, want)
	}
}

// wantNoBits: the range encoder is without bits.
func wantNoBits(t *testing.T, e *lzenc.Encoder) {
	t.Helper()
	if n, b := e.Size(), e.Cut(); n != 5 || !bytes.Equal(b, make([]byte, 5)) {
		t.Errorf("the size is %d, the bytes % X; want five zeros", n, b)
	}
}

// pair: an encoder, and beside it the same by the words of the chapter.
type pair struct {
	e *lzenc.Encoder
	w *twin
}

func newPair(t *testing.T, p api.Props, dict int) *pair {
	t.Helper()
	return &pair{made(t, p, dict), newTwin(p, dict)}
}

// put: into both; what is refused by one must be so by the other. It answers whether all were taken.
func (a *pair) put(t *testing.T, l ...api.Symbol) bool {
	t.Helper()
	all := true
	for _, y := range l {
		want := a.w.refuses(y)
		if want != api.OK {
			wantRefused(t, a.e, y, want)
			all = false
			continue
		}
		wantCost(t, a.e, y, a.w.cost(y))
		wantPut(t, a.e, y)
		a.w.put(y)
	}
	if n := a.w.out.Size(); a.e.Size() != n {
		t.Fatalf("the size is %d, want %d", a.e.Size(), n)
	}
	return all
}

func (a *pair) cut(t *testing.T) []byte {
	t.Helper()
	b, want := a.e.Cut(), a.w.cut()
	if !bytes.Equal(b, want) || a.e.Size() != 5 {
		t.Fatalf("Cut is % X, want % X; the size behind it is %d", b, want, a.e.Size())
	}
	return b
}

func (a *pair) raw(b ...byte) {
	a.e.Raw(b...)
	a.w.came = append(a.w.came, b...)
}

func (a *pair) reset(t *testing.T, p api.Props) {
	t.Helper()
	if errno := a.e.Reset(p); errno != api.OK {
		t.Fatalf("Reset(%+v): error %d", p, errno)
	}
	a.w.p = p
	a.w.forget()
}

func (a *pair) clear() {
	a.e.Clear()
	a.w.forget()
	a.w.came = nil
}

func (a *pair) fork() *pair { return &pair{a.e.Fork(), a.w.fork()} }

// panel: symbols of each kind, the edges of this dictionary and this state among them, right ones and such as are refused.
func (w *twin) panel() []api.Symbol {
	l := []api.Symbol{lit(0), lit(255), lit(0x61), lit(0x80), lit(1), short()}
	if full := w.held(); full >= w.s.Reps[0] {
		t := w.back(w.s.Reps[0])
		l = append(l, lit(t), lit(t^0x80), lit(t^0x10), lit(t^1))
	}
	for _, n := range lengths {
		for i := range 4 {
			l = append(l, rep(n, i))
		}
		l = append(l, match(n, 1), match(n, max(1, w.held())))
	}
	for _, d := range []int{1, 2, 3, 4, 5, 6, 8, 96, 97, 128, 129, 144, 192, 193, 4097, w.held(), w.held() + 1, api.MaxTold} {
		l = append(l, match(2, d), match(5, d))
	}
	for _, c := range stateWrong {
		l = append(l, c.y)
	}
	return l
}

// same: nothing that can be asked tells the encoder from its twin: the size, the costs of many symbols; and what a fork cuts, at once and behind further symbols.
func (a *pair) same(t *testing.T) {
	t.Helper()
	if a.e.Size() != a.w.out.Size() {
		t.Fatalf("the size is %d, want %d", a.e.Size(), a.w.out.Size())
	}
	for _, y := range a.w.panel() {
		want, cost := a.w.refuses(y), 0
		if want == api.OK {
			cost = a.w.cost(y)
		}
		if n, errno := a.e.Cost(y); n != cost || errno != want {
			t.Fatalf("the cost of %+v is %d, error %d; want %d, error %d", y, n, errno, cost, want)
		}
	}
	if b, want := a.e.Fork().Cut(), a.w.fork().cut(); !bytes.Equal(b, want) {
		t.Fatalf("the bytes are % X, want % X", b, want)
	}
	f := a.fork()
	chance(t, f, rand.New(rand.NewSource(14)), 40)
	f.cut(t)
}

// chanceSymbol: one that may be right: its distance, of a match, is mostly in the dictionary; with anything where its kind does not look.
func (w *twin) chanceSymbol(r *rand.Rand) api.Symbol {
	y := api.Symbol{Kind: 1 + r.Intn(4), Byte: byte(r.Intn(256)), Len: 2 + r.Intn(12), Dist: r.Intn(4)}
	if r.Intn(3) == 0 {
		y.Byte = byte(r.Intn(3))
	}
	if r.Intn(6) == 0 {
		y.Len = lengths[r.Intn(len(lengths))]
	}
	if y.Kind != api.SymMatch {
		return y
	}
	full := max(1, w.held())
	switch r.Intn(4) {
	case 0:
		y.Dist = full
	case 1:
		y.Dist = 1 + r.Intn(full)
	default:
		y.Dist = 1 + r.Intn(1<<r.Intn(18))
	}
	return y
}

// chance: puts n symbols, whichever; some are refused. It answers those that were taken.
func chance(t *testing.T, a *pair, r *rand.Rand, n int) []api.Symbol {
	t.Helper()
	var l []api.Symbol
	for range n {
		y := a.w.chanceSymbol(r)
		if a.put(t, y) {
			l = append(l, y)
		}
	}
	return l
}

// moves: what may be done to an encoder beside putting, by name.
var moves = map[string]func(t *testing.T, a *pair){
	"Put":   func(t *testing.T, a *pair) { a.put(t, lit(9), lit(200), rep(4, 0), lit(9), match(3, 2), short()) },
	"Cost":  func(t *testing.T, a *pair) { a.e.Cost(lit(3)); a.e.Cost(match(3, 2)); a.e.Cost(api.Symbol{}) },
	"Raw":   func(t *testing.T, a *pair) { a.raw(7, 8, 9, 200, 7) },
	"Cut":   func(t *testing.T, a *pair) { a.cut(t) },
	"Reset": func(t *testing.T, a *pair) { a.reset(t, api.Props{LC: 1, LP: 2, PB: 3}) },
	"Clear": func(t *testing.T, a *pair) { a.clear() },
}

func moveNames() []string { return slices.Sorted(maps.Keys(moves)) }

// half: what bits cost, each by a probability that is Half (0, 1) or by none (o, i); blanks are for the eye.
func half(bits string) int {
	sum := 0
	for _, c := range bits {
		switch c {
		case '1':
			sum += 17
		case '0', 'o', 'i':
			sum += 16
		}
	}
	return sum
}

// coded: the bytes of such bits.
func coded(bits string) []byte {
	e := rcenc.New()
	for _, c := range bits {
		s, _ := prob.New(1)
		switch c {
		case '0', '1':
			e.Bit(s, 0, int(c-'0'))
		case 'o':
			e.Direct(0, 1)
		case 'i':
			e.Direct(1, 1)
		}
	}
	return e.Bytes()
}

// wantSpelt: an encoder whose probabilities for it are all Half takes the symbol as these bits: by their cost, and by the bytes.
func wantSpelt(t *testing.T, e *lzenc.Encoder, y api.Symbol, bits string) {
	t.Helper()
	wantCost(t, e, y, half(bits))
	e.Cut()
	wantPut(t, e, y)
	n, b, want := e.Size(), e.Cut(), coded(bits)
	if !bytes.Equal(b, want) || n != len(want) {
		t.Errorf("%+v becomes % X, %d bytes; want % X", y, b, n, want)
	}
}

// behind: what a bit costs by a probability that was Half, behind k bits that were all the same.
func behind(k, was, bit int) int {
	p := prob.Half
	for range k {
		p = prob.Next(p, was)
	}
	return prob.Cost(p, bit)
}

// again: what bits cost that have come just so k times before.
func again(k int, bits string) int {
	sum := 0
	for _, c := range bits {
		if c == '0' || c == '1' {
			sum += behind(k, int(c-'0'), int(c-'0'))
		}
	}
	return sum
}
