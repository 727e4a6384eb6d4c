package rcenc_test

import (
	"bytes"
	"math/big"
	"math/rand"
	"testing"

	"pith/api"
	"pith/prob"
	"pith/rcenc"
)

// The greatest and the least int.
const (
	greatest = 1<<63 - 1
	least    = -1 << 63
)

// ones: bits that count as a 1.
var ones = []int{1, 2, 3, 7, -1, -2, -7, 255, 256, 65536, 1 << 31, 1 << 32, -1 << 32, 1 << 62, least, greatest}

// outside: numbers that no row of the tests has.
var outside = []int{-1, -2, -31, -1 << 31, -1 << 32, least, least + 1, 1 << 20, 1<<20 + 1, 1 << 31, 1 << 32, 1<<32 + 1, 1 << 62, greatest - 1, greatest}

// noCounts: numbers of bits that Direct refuses.
var noCounts = []int{-1, -2, -32, -1 << 31, -1 << 32, least, least + 1, least + 32, 33, 34, 63, 64, 255, 256, 1 << 31, 1 << 32, 1<<32 + 1, 1<<32 + 32, 1 << 62, greatest - 1, greatest}

// sum: an encoder by the words of the chapter: L as a whole number of any size, with the probabilities of its own row.
type sum struct {
	low    *big.Int
	span   uint64
	shifts int
	row    []int
}

func newSum(row ...int) *sum {
	return &sum{low: new(big.Int), span: 1<<32 - 1, row: row}
}

func (u *sum) add(v uint64) {
	u.low.Add(u.low, new(big.Int).SetUint64(v))
}

func (u *sum) widen() {
	for u.span < 1<<24 {
		u.low.Mul(u.low, big.NewInt(256))
		u.span *= 256
		u.shifts++
	}
}

// bound: where the range is cut by the probability number i.
func (u *sum) bound(i int) uint64 {
	return u.span / 2048 * uint64(u.row[i])
}

// bit: by the probability number i, which moves.
func (u *sum) bit(i, bit int) {
	b, p := u.bound(i), u.row[i]
	if bit == 0 {
		u.span, u.row[i] = b, p+(2048-p)/32
	} else {
		u.add(b)
		u.span, u.row[i] = u.span-b, p-p/32
	}
	u.widen()
}

// plain: a bit without a probability.
func (u *sum) plain(bit int) {
	u.span /= 2
	if bit != 0 {
		u.add(u.span)
	}
	u.widen()
}

// direct: the n lowest bits of v, the highest first.
func (u *sum) direct(v uint32, n int) {
	for n--; n >= 0; n-- {
		u.plain(int(v / (1 << n) % 2))
	}
}

// bytes: the digits of L, as many as the shifts and 5.
func (u *sum) bytes() []byte {
	return u.low.FillBytes(make([]byte, u.shifts+5))
}

func (u *sum) fork() *sum {
	f := *u
	f.low = new(big.Int).Set(u.low)
	f.row = append([]int{}, u.row...)
	return &f
}

// made: a row of n probabilities.
func made(t *testing.T, n int) *prob.Set {
	t.Helper()
	s, e := prob.New(n)
	if s == nil || e != api.OK {
		t.Fatalf("prob.New(%d): error %d", n, e)
	}
	return s
}

// halves: what such a row has.
func halves(n int) []int {
	row := make([]int, n)
	for i := range row {
		row[i] = 1024
	}
	return row
}

// begun: a new encoder.
func begun(t *testing.T) *rcenc.Encoder {
	t.Helper()
	e := rcenc.New()
	if e == nil {
		t.Fatal("New answers none")
	}
	return e
}

// code: a bit, without an error.
func code(t *testing.T, e *rcenc.Encoder, s *prob.Set, i, bit int) {
	t.Helper()
	if errno := e.Bit(s, i, bit); errno != api.OK {
		t.Fatalf("Bit(s, %d, %d): error %d", i, bit, errno)
	}
}

// direct: n bits without a probability, without an error.
func direct(t *testing.T, e *rcenc.Encoder, v uint32, n int) {
	t.Helper()
	if errno := e.Direct(v, n); errno != api.OK {
		t.Fatalf("Direct(%d, %d): error %d", v, n, errno)
	}
}

// wantBytes: those, and as many.
func wantBytes(t *testing.T, e *rcenc.Encoder, want ...byte) {
	t.Helper()
	if n := e.Size(); n != len(want) {
		t.Errorf("Size is %d, want %d", n, len(want))
	}
	if got := e.Bytes(); !bytes.Equal(got, want) {
		t.Errorf("Bytes: % X, want % X", got, want)
	}
}

// wantRow: the whole row of probabilities.
func wantRow(t *testing.T, s *prob.Set, want []int) {
	t.Helper()
	if s.Len() != len(want) {
		t.Fatalf("a row of %d, want %d", s.Len(), len(want))
	}
	for i, w := range want {
		if p, e := s.At(i); p != w || e != api.OK {
			t.Errorf("At(%d) is %d, want %d", i, p, w)
		}
	}
}

// chanceBit: a 0, or one of those that count as a 1.
func chanceBit(r *rand.Rand) int {
	if r.Intn(2) == 0 {
		return 0
	}
	return ones[r.Intn(len(ones))]
}

// ends: which ends probabilities are driven to: a row of bits that leads from Half there.
var ends = []struct{ p, bit, times int }{{1024, 0, 0}, {31, 1, 400}, {2017, 0, 400}}

// driven: a row of n, all of them at one end.
func driven(t *testing.T, n, bit, times int) *prob.Set {
	t.Helper()
	s := made(t, n)
	for i := range n {
		for range times {
			s.Turn(i, bit)
		}
	}
	return s
}

// alike: n numbers p.
func alike(n, p int) []int {
	row := halves(n)
	for i := range row {
		row[i] = p
	}
	return row
}

// pair: an encoder with its set, and beside them the same by the words of the chapter.
type pair struct {
	e *rcenc.Encoder
	s *prob.Set
	u *sum
}

func newPair(t *testing.T, n int) *pair {
	t.Helper()
	return &pair{begun(t), made(t, n), newSum(halves(n)...)}
}

func (p *pair) bit(t *testing.T, i, bit int) {
	t.Helper()
	code(t, p.e, p.s, i, bit)
	p.u.bit(i, bit)
}

func (p *pair) direct(t *testing.T, v uint32, n int) {
	t.Helper()
	direct(t, p.e, v, n)
	p.u.direct(v, n)
}

// chance: a bit with or without a probability, whichever.
func (p *pair) chance(t *testing.T, r *rand.Rand) {
	t.Helper()
	if len(p.u.row) == 0 || r.Intn(3) == 0 {
		p.direct(t, r.Uint32(), r.Intn(33))
	} else {
		p.bit(t, r.Intn(len(p.u.row)), chanceBit(r))
	}
}

// same: the encoder has the bytes, the set the probabilities.
func (p *pair) same(t *testing.T) {
	t.Helper()
	wantBytes(t, p.e, p.u.bytes()...)
	wantRow(t, p.s, p.u.row)
}

// fork: both, with a set of its own.
func (p *pair) fork(t *testing.T) *pair {
	t.Helper()
	f := p.e.Fork()
	if f == nil || f == p.e {
		t.Fatal("Fork answers no other encoder")
	}
	return &pair{f, p.s.Fork(), p.u.fork()}
}
