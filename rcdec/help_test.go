package rcdec_test

import (
	"math/big"
	"math/rand"
	"testing"

	"pith/api"
	"pith/prob"
	"pith/rcdec"
)

// The greatest and the least int.
const (
	greatest = 1<<63 - 1
	least    = -1 << 63
)

// outside: numbers that no row of the tests has.
var outside = []int{-1, -2, -31, -1 << 31, -1 << 32, least, least + 1, 1 << 20, 1<<20 + 1, 1 << 31, 1 << 32, 1<<32 + 1, 1 << 62, greatest - 1, greatest}

// noCounts: numbers of bits that Direct refuses.
var noCounts = []int{-1, -2, -32, -1 << 31, -1 << 32, least, least + 1, least + 32, 33, 34, 63, 64, 255, 256, 1 << 31, 1 << 32, 1<<32 + 1, 1<<32 + 32, 1 << 62, greatest - 1, greatest}

// ends: which ends probabilities are driven to: a row of bits that leads from Half there.
var ends = []struct{ p, bit, times int }{{1024, 0, 0}, {31, 1, 400}, {2017, 0, 400}}

// teller: a decoder by the words of the chapter, in numbers of 64 bits. It is a value: where a step is refused, the one ahead of it is still there.
type teller struct {
	b          []byte
	used       int
	span, code uint64
}

func newTeller(b []byte) teller {
	u := teller{b: b, used: 5, span: 1<<32 - 1}
	for _, c := range b[1:5] {
		u.code = 256*u.code + uint64(c)
	}
	return u
}

func (u teller) done() bool { return u.used == len(u.b) && u.code == 0 }

func (u teller) widened() (teller, api.Errno) {
	if u.span >= 1<<24 {
		return u, api.OK
	}
	if u.used == len(u.b) {
		return u, api.ErrTruncated
	}
	u.span, u.code = 256*u.span, 256*u.code+uint64(u.b[u.used])
	u.used++
	return u, api.OK
}

// bit: by a probability p.
func (u teller) bit(p int) (teller, int, api.Errno) {
	bound, bit := u.span/2048*uint64(p), 0
	if u.code < bound {
		u.span = bound
	} else {
		bit = 1
		u.code, u.span = u.code-bound, u.span-bound
	}
	u, e := u.widened()
	return u, bit, e
}

// direct: n bits without a probability.
func (u teller) direct(n int) (teller, uint32, api.Errno) {
	v := uint32(0)
	for range n {
		u.span /= 2
		v *= 2
		if u.code >= u.span {
			v++
			u.code -= u.span
		}
		if u.code >= u.span {
			return u, 0, api.ErrFormat
		}
		var e api.Errno
		if u, e = u.widened(); e != api.OK {
			return u, 0, e
		}
	}
	return u, v, api.OK
}

// moved: the probability p behind a bit.
func moved(p, bit int) int {
	if bit == 0 {
		return p + (2048-p)/32
	}
	return p - p/32
}

// path: an encoder's range and low end, as a whole number of any size: which bytes lead a decoder to a code that is wanted.
type path struct {
	low    *big.Int
	span   uint64
	shifts int
}

func newPath() *path { return &path{low: new(big.Int), span: 1<<32 - 1} }

func (a *path) widen() {
	if a.span < 1<<24 {
		a.low.Lsh(a.low, 8)
		a.span *= 256
		a.shifts++
	}
}

func (a *path) bit(p, bit int) {
	bound := a.span / 2048 * uint64(p)
	if bit == 0 {
		a.span = bound
	} else {
		a.low.Add(a.low, new(big.Int).SetUint64(bound))
		a.span -= bound
	}
	a.widen()
}

func (a *path) plain(bit int) {
	a.span /= 2
	if bit != 0 {
		a.low.Add(a.low, new(big.Int).SetUint64(a.span))
	}
	a.widen()
}

// direct: the n lowest bits of v, the highest first.
func (a *path) direct(v uint32, n int) {
	for n--; n >= 0; n-- {
		a.plain(int(v >> n & 1))
	}
}

// bytes: those of a decoder that has read them all behind the same bits, with that code.
func (a *path) bytes(code uint64) []byte {
	x := new(big.Int).Add(a.low, new(big.Int).SetUint64(code))
	return x.FillBytes(make([]byte, a.shifts+5))
}

// made: a row of n probabilities.
func made(t *testing.T, n int) *prob.Set {
	t.Helper()
	s, e := prob.New(n)
	if s == nil || e != api.OK {
		t.Fatalf("prob.New(%d): error %d", n, e)
	}
	return s
}

// driven: a row of n, all of them at one end.
func driven(t *testing.T, n, bit, times int) *prob.Set {
	t.Helper()
	s := made(t, n)
	for i := range n {
		for range times {
			s.Turn(i, bit)
		}
	}
	return s
}

// alike: n numbers p.
func alike(n, p int) []int {
	row := make([]int, n)
	for i := range row {
		row[i] = p
	}
	return row
}

// begun: a decoder of those bytes.
func begun(t *testing.T, b ...byte) *rcdec.Decoder {
	t.Helper()
	d, e := rcdec.New(b)
	if d == nil || e != api.OK {
		t.Fatalf("New(% X): error %d", b, e)
	}
	return d
}

// wantBit: a bit by number i, without an error.
func wantBit(t *testing.T, d *rcdec.Decoder, s *prob.Set, i, want int) {
	t.Helper()
	if bit, e := d.Bit(s, i); bit != want || e != api.OK {
		t.Errorf("Bit of number %d: %d, error %d; want %d", i, bit, e, want)
	}
}

// noBit: number i is refused, and the answer beside it is 0.
func noBit(t *testing.T, d *rcdec.Decoder, s *prob.Set, i int, want api.Errno) {
	t.Helper()
	if bit, e := d.Bit(s, i); bit != 0 || e != want {
		t.Errorf("Bit of number %d: %d, error %d; want error %d", i, bit, e, want)
	}
}

// wantDirect: n bits, without an error.
func wantDirect(t *testing.T, d *rcdec.Decoder, n int, want uint32) {
	t.Helper()
	if v, e := d.Direct(n); v != want || e != api.OK {
		t.Errorf("Direct(%d): %X, error %d; want %X", n, v, e, want)
	}
}

// noDirect: n bits are refused, and the answer beside that is 0.
func noDirect(t *testing.T, d *rcdec.Decoder, n int, want api.Errno) {
	t.Helper()
	if v, e := d.Direct(n); v != 0 || e != want {
		t.Errorf("Direct(%d): %X, error %d; want error %d", n, v, e, want)
	}
}

// wantEnd: how far it has read, and whether this can be the end.
func wantEnd(t *testing.T, d *rcdec.Decoder, used int, done bool) {
	t.Helper()
	if d.Used() != used || d.Done() != done {
		t.Errorf("Used is %d, Done %v; want %d, %v", d.Used(), d.Done(), used, done)
	}
}

// wantRow: the whole row of probabilities.
func wantRow(t *testing.T, s *prob.Set, want []int) {
	t.Helper()
	if s.Len() != len(want) {
		t.Fatalf("a row of %d, want %d", s.Len(), len(want))
	}
	for i, w := range want {
		if p, e := s.At(i); p != w || e != api.OK {
			t.Errorf("At(%d) is %d, want %d", i, p, w)
		}
	}
}

// pair: a decoder with its set, and beside them the same by the words of the chapter.
type pair struct {
	d   *rcdec.Decoder
	s   *prob.Set
	u   teller
	row []int
}

func newPair(t *testing.T, n int, b ...byte) *pair {
	t.Helper()
	return &pair{begun(t, b...), made(t, n), newTeller(b), alike(n, 1024)}
}

// bit: by number i, from both. It answers whether the bit was there.
func (p *pair) bit(t *testing.T, i int) bool {
	t.Helper()
	u, want, e := p.u.bit(p.row[i])
	if e != api.OK {
		noBit(t, p.d, p.s, i, e)
	} else {
		wantBit(t, p.d, p.s, i, want)
		p.u, p.row[i] = u, moved(p.row[i], want)
	}
	p.same(t)
	return e == api.OK
}

// direct: n bits from both. It answers the error.
func (p *pair) direct(t *testing.T, n int) api.Errno {
	t.Helper()
	u, want, e := p.u.direct(n)
	if e != api.OK {
		noDirect(t, p.d, n, e)
	} else {
		wantDirect(t, p.d, n, want)
		p.u = u
	}
	p.same(t)
	return e
}

// same: what can be seen of both.
func (p *pair) same(t *testing.T) {
	t.Helper()
	wantEnd(t, p.d, p.u.used, p.u.done())
	for i, want := range p.row {
		if got, _ := p.s.At(i); got != want {
			t.Errorf("At(%d) is %d, want %d", i, got, want)
		}
	}
	if t.Failed() {
		t.FailNow()
	}
}

// chance: a bit with or some without a probability, whichever. It answers whether they were there.
func (p *pair) chance(t *testing.T, r *rand.Rand) bool {
	t.Helper()
	if len(p.row) == 0 || r.Intn(3) == 0 {
		return p.direct(t, r.Intn(33)) == api.OK
	}
	return p.bit(t, r.Intn(len(p.row)))
}

// drain: all that is still there, down to the last bit by any number: a code, a range or a place that is not as it was is seen by then.
func (p *pair) drain(t *testing.T, r *rand.Rand) {
	t.Helper()
	for p.chance(t, r) {
	}
	for n := 32; n >= 0; n-- {
		p.direct(t, n)
	}
	for i := range p.row {
		for range 100 {
			if !p.bit(t, i) {
				break
			}
			p.direct(t, 1)
		}
	}
}

// chanceBytes: n bytes that New takes: any, or many 00 or many FF among them.
func chanceBytes(r *rand.Rand, n int) []byte {
	b := make([]byte, n)
	kind := r.Intn(4)
	for i := range b {
		switch {
		case kind == 0 || kind == 3 && r.Intn(2) == 0:
			b[i] = byte(r.Intn(256))
		case kind == 1 || kind == 3 && r.Intn(2) == 0:
			b[i] = 0xFF
		}
	}
	b[0] = 0
	if b[1] == 0xFF && b[2] == 0xFF && b[3] == 0xFF {
		b[4] &^= 1 << r.Intn(8)
	}
	return b
}
