package tree_test

import (
	"bytes"
	"math/rand"
	"testing"

	"pith/api"
	"pith/prob"
	"pith/rcdec"
	"pith/rcenc"
)

// The kinds of a step: a number in either order, a bit, direct bits.
const (
	aNumber = iota
	aNumberBack
	aBit
	direct
)

// step: what an encoder is given at a time; which row it goes by.
type step struct {
	kind, row, at, n, v int
}

// chanceStep: any, over rows of those lengths, in trees wherever they may be: so they overlap.
func chanceStep(r *rand.Rand, long []int) step {
	c := step{kind: r.Intn(4), row: r.Intn(len(long))}
	room := long[c.row]
	switch c.kind {
	case direct:
		c.n = r.Intn(33)
		c.v = int(r.Uint32())
	case aBit:
		c.at, c.v = r.Intn(room), r.Intn(2)
	default:
		for c.n = r.Intn(17); 1<<c.n > room; {
			c.n = r.Intn(17)
		}
		c.at = r.Intn(room - 1<<c.n + 1)
		c.v = []int{0, 1<<c.n - 1, r.Intn(1 << c.n), r.Intn(1 << c.n)}[r.Intn(4)]
	}
	return c
}

// write: the step, by an encoder.
func (c step) write(t *testing.T, e *rcenc.Encoder, rows []*prob.Set) {
	t.Helper()
	switch c.kind {
	case direct:
		e.Direct(uint32(c.v), c.n)
	case aBit:
		e.Bit(rows[c.row], c.at, c.v)
	default:
		put(t, orders[c.kind], e, rows[c.row], c.at, c.n, c.v)
	}
}

// read: the step, by a decoder: what was written.
func (c step) read(t *testing.T, d *rcdec.Decoder, rows []*prob.Set) {
	t.Helper()
	switch c.kind {
	case direct:
		if v, errno := d.Direct(c.n); int(v) != c.v&(1<<c.n-1) || errno != api.OK {
			t.Fatalf("Direct(%d): %X, error %d; want %X", c.n, v, errno, c.v)
		}
	case aBit:
		if bit, errno := d.Bit(rows[c.row], c.at); bit != c.v || errno != api.OK {
			t.Fatalf("Bit of number %d: %d, error %d; want %d", c.at, bit, errno, c.v)
		}
	default:
		wantGet(t, orders[c.kind], d, rows[c.row], c.at, c.n, c.v)
	}
}

func forks(rows []*prob.Set) []*prob.Set {
	list := []*prob.Set{}
	for _, s := range rows {
		list = append(list, s.Fork())
	}
	return list
}

// wantBack: the steps there and back, with and without bytes behind them: the same numbers, rows that stand alike, all bytes read, Done.
func wantBack(t *testing.T, begin []*prob.Set, steps []step) {
	t.Helper()
	there, e := forks(begin), rcenc.New()
	for _, c := range steps {
		c.write(t, e, there)
	}
	b := e.Bytes()
	for _, tail := range [][]byte{nil, {0}, {0xFF, 0xFF, 0xFF}} {
		d, back := begun(t, append(bytes.Clone(b), tail...)...), forks(begin)
		for _, c := range steps {
			c.read(t, d, back)
		}
		for i, s := range back {
			wantAlike(t, s, there[i])
		}
		if d.Used() != len(b) || d.Done() != (len(tail) == 0) {
			t.Fatalf("Used is %d of %d, Done %v", d.Used(), len(b), d.Done())
		}
	}
}

// P9.5: numbers in both orders, bits and direct bits, mixed, into several rows, in trees that overlap.
func TestThereAndBack(t *testing.T) {
	r := rand.New(rand.NewSource(951))
	for _, long := range [][]int{{1}, {2}, {8}, {1, 2, 3}, {40, 300}, {16, 16, 16}, {1000, 7, 65536}} {
		for _, many := range []int{0, 1, 2, 5, 30, 700} {
			begin, steps := []*prob.Set{}, []step{}
			for _, n := range long {
				begin = append(begin, chanceRow(t, r, n))
			}
			for range many {
				steps = append(steps, chanceStep(r, long))
			}
			wantBack(t, begin, steps)
		}
	}
}

// P9.5: every number of every small tree, by itself and all behind one another.
func TestThereAndBackOfEveryNumber(t *testing.T) {
	for _, kind := range []int{aNumber, aNumberBack} {
		for n := range 9 {
			all := []step{}
			for v := range 1 << n {
				c := step{kind: kind, at: 2, n: n, v: v}
				wantBack(t, []*prob.Set{made(t, 1<<n+2)}, []step{c})
				all = append(all, c)
			}
			wantBack(t, []*prob.Set{made(t, 1<<n+2)}, all)
		}
	}
}

// P9.5: the greatest trees: 16 bits, at the edges and any.
func TestThereAndBackOfGreatTrees(t *testing.T) {
	r := rand.New(rand.NewSource(952))
	for n := 9; n <= 16; n++ {
		steps := []step{}
		for _, v := range values(r, n) {
			steps = append(steps, step{kind: aNumber, at: r.Intn(3), n: n, v: v}, step{kind: aNumberBack, at: r.Intn(3), n: n, v: v})
		}
		wantBack(t, []*prob.Set{made(t, 1<<n+2)}, steps)
	}
}

// P9.5: both orders in one and the same tree, in turns.
func TestThereAndBackInOneTree(t *testing.T) {
	r := rand.New(rand.NewSource(953))
	for n := range 8 {
		steps := []step{}
		for range 300 {
			steps = append(steps, step{kind: r.Intn(2), n: n, v: r.Intn(1 << n)})
		}
		wantBack(t, []*prob.Set{made(t, 1<<n)}, steps)
	}
}

// P9.5: rows that began at their ends, with numbers that were not awaited there.
func TestThereAndBackFromTheEnds(t *testing.T) {
	r := rand.New(rand.NewSource(954))
	for bit := range 2 {
		steps := []step{}
		for range 600 {
			steps = append(steps, chanceStep(r, []int{70, 9}))
		}
		wantBack(t, []*prob.Set{driven(t, 70, bit), driven(t, 9, 1-bit)}, steps)
	}
}
