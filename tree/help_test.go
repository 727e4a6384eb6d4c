package tree_test

import (
	"bytes"
	"math/rand"
	"testing"

	"pith/api"
	"pith/prob"
	"pith/rcdec"
	"pith/rcenc"
	"pith/tree"
)

// The greatest and the least int.
const (
	greatest = 1<<63 - 1
	least    = -1 << 63
)

// order: the calls of one order of bits.
type order struct {
	name string
	back bool
	put  func(e *rcenc.Encoder, s *prob.Set, at, n, v int) api.Errno
	get  func(d *rcdec.Decoder, s *prob.Set, at, n int) (int, api.Errno)
	cost func(s *prob.Set, at, n, v int) (int, api.Errno)
}

var orders = []order{
	{"the highest first", false, tree.Put, tree.Get, tree.Cost},
	{"back", true, tree.PutBack, tree.GetBack, tree.CostBack},
}

// bitAt: a bit of a way, and the number of the probability that it goes by.
type bitAt struct{ place, bit int }

// worth: what the bit number k (from 0) of n is worth in that order.
func (o order) worth(n, k int) int {
	if o.back {
		return 1 << k
	}
	return 1 << (n - 1 - k)
}

// way: that of v, by the words of the chapter.
func (o order) way(at, n, v int) []bitAt {
	list := []bitAt{}
	m := 1
	for k := range n {
		bit := v / o.worth(n, k) % 2
		list = append(list, bitAt{at + m, bit})
		m = 2*m + bit
	}
	return list
}

// values: every v of a small tree, the edges and some others of a great one.
func values(r *rand.Rand, n int) []int {
	list := []int{}
	if n <= 6 {
		for v := range 1 << n {
			list = append(list, v)
		}
		return list
	}
	last := 1<<n - 1
	list = append(list, 0, 1, 2, last, last-1, last/2, last/2+1)
	for range 20 {
		list = append(list, r.Intn(1<<n))
	}
	return list
}

// made: a row of n probabilities.
func made(t *testing.T, n int) *prob.Set {
	t.Helper()
	s, e := prob.New(n)
	if s == nil || e != api.OK {
		t.Fatalf("prob.New(%d): error %d", n, e)
	}
	return s
}

// chanceRow: a row of n that any bits have moved.
func chanceRow(t *testing.T, r *rand.Rand, n int) *prob.Set {
	t.Helper()
	s := made(t, n)
	for i := range n {
		zeros := r.Intn(101)
		for range r.Intn(60) {
			bit := 0
			if r.Intn(100) >= zeros {
				bit = 1
			}
			s.Turn(i, bit)
		}
	}
	return s
}

// driven: a row of n, all of them at the end that such bits lead to.
func driven(t *testing.T, n, bit int) *prob.Set {
	t.Helper()
	s := made(t, n)
	for i := range n {
		for range 400 {
			s.Turn(i, bit)
		}
	}
	return s
}

// begun: a decoder of those bytes.
func begun(t *testing.T, b ...byte) *rcdec.Decoder {
	t.Helper()
	d, e := rcdec.New(b)
	if d == nil || e != api.OK {
		t.Fatalf("rcdec.New(% X): error %d", b, e)
	}
	return d
}

// put: without an error.
func put(t *testing.T, o order, e *rcenc.Encoder, s *prob.Set, at, n, v int) {
	t.Helper()
	if errno := o.put(e, s, at, n, v); errno != api.OK {
		t.Fatalf("%s: Put at %d, %d bits, %d: error %d", o.name, at, n, v, errno)
	}
}

// wantGet: that number, without an error.
func wantGet(t *testing.T, o order, d *rcdec.Decoder, s *prob.Set, at, n, want int) {
	t.Helper()
	if v, errno := o.get(d, s, at, n); v != want || errno != api.OK {
		t.Fatalf("%s: Get at %d, %d bits: %d, error %d; want %d", o.name, at, n, v, errno, want)
	}
}

// noGet: that error, and 0.
func noGet(t *testing.T, o order, d *rcdec.Decoder, s *prob.Set, at, n int, want api.Errno) {
	t.Helper()
	if v, errno := o.get(d, s, at, n); v != 0 || errno != want {
		t.Fatalf("%s: Get at %d, %d bits: %d, error %d; want error %d", o.name, at, n, v, errno, want)
	}
}

// wantCost: that cost, without an error.
func wantCost(t *testing.T, o order, s *prob.Set, at, n, v, want int) {
	t.Helper()
	if c, errno := o.cost(s, at, n, v); c != want || errno != api.OK {
		t.Fatalf("%s: Cost at %d, %d bits, %d: %d, error %d; want %d", o.name, at, n, v, c, errno, want)
	}
}

// costOf: without an error.
func costOf(t *testing.T, o order, s *prob.Set, at, n, v int) int {
	t.Helper()
	c, errno := o.cost(s, at, n, v)
	if errno != api.OK {
		t.Fatalf("%s: Cost at %d, %d bits, %d: error %d", o.name, at, n, v, errno)
	}
	return c
}

// wantRow: these numbers of the row are these, all others 1024.
func wantRow(t *testing.T, s *prob.Set, want map[int]int) {
	t.Helper()
	for i := range s.Len() {
		w, ok := want[i]
		if !ok {
			w = 1024
		}
		if p, _ := s.At(i); p != w {
			t.Errorf("At(%d) is %d, want %d", i, p, w)
		}
	}
}

// wantAlike: two rows that stand alike.
func wantAlike(t *testing.T, s, want *prob.Set) {
	t.Helper()
	if s.Len() != want.Len() {
		t.Fatalf("rows of %d and %d", s.Len(), want.Len())
	}
	for i := range want.Len() {
		p, _ := s.At(i)
		if q, _ := want.At(i); p != q {
			t.Fatalf("At(%d) is %d, want %d", i, p, q)
		}
	}
}

// wantSame: two encoders that are alike, also in what they go on to.
func wantSame(t *testing.T, e, want *rcenc.Encoder) {
	t.Helper()
	for range 2 {
		if !bytes.Equal(e.Bytes(), want.Bytes()) || e.Size() != want.Size() {
			t.Fatalf("bytes % X, want % X", e.Bytes(), want.Bytes())
		}
		e, want = e.Fork(), want.Fork()
		e.Direct(1<<32-1, 32) // shows the range
		want.Direct(1<<32-1, 32)
	}
}

// wantBoth: two decoders of the same bytes that are alike, also in all that they still read. They are read to their ends by that.
func wantBoth(t *testing.T, d, want *rcdec.Decoder) {
	t.Helper()
	for n := 32; n >= 0; {
		if d.Used() != want.Used() || d.Done() != want.Done() {
			t.Fatalf("Used is %d, Done %v; want %d, %v", d.Used(), d.Done(), want.Used(), want.Done())
		}
		v, e := d.Direct(n)
		w, f := want.Direct(n)
		if v != w || e != f {
			t.Fatalf("Direct(%d): %X, error %d; want %X, error %d", n, v, e, w, f)
		}
		if e != api.OK || n == 0 {
			n--
		}
	}
}

// chanceBytes: n bytes that rcdec.New takes.
func chanceBytes(r *rand.Rand, n int) []byte {
	b := make([]byte, n)
	for i := range b {
		b[i] = []byte{0, 0xFF, byte(r.Intn(256)), byte(r.Intn(256))}[r.Intn(4)]
	}
	b[0] = 0
	b[1] &= 0xFE
	return b
}
