package rcdec_test

import (
	"bytes"
	"math/rand"
	"testing"

	"pith/api"
	"pith/prob"
	"pith/rcdec"
	"pith/rcenc"
)

// step: a bit by a number of a set, or (at -1) the n lowest bits of v without a probability.
type step struct {
	at, bit, n int
	v          uint32
}

// Which steps a row is made of.
const (
	byProbability = iota
	without
	mixed
)

// chanceSteps: a row of them over a set of n; of a hundred bits by probabilities that many are 0.
func chanceSteps(r *rand.Rand, kind, n, zeros, long int) []step {
	steps := make([]step, long)
	for k := range steps {
		if kind == without || kind == mixed && r.Intn(4) == 0 {
			c := r.Intn(33)
			steps[k] = step{at: -1, n: c, v: r.Uint32()}
			if r.Intn(4) == 0 {
				steps[k].v = []uint32{0, 1<<32 - 1}[r.Intn(2)]
			}
			continue
		}
		steps[k].at = r.Intn(n)
		if r.Intn(100) >= zeros {
			steps[k].bit = 1
		}
	}
	return steps
}

// encoded: the bytes of a row by an encoder over that set, which moves.
func encoded(t *testing.T, s *prob.Set, steps []step) []byte {
	t.Helper()
	e := rcenc.New()
	for _, c := range steps {
		errno := api.OK
		if c.at < 0 {
			errno = e.Direct(c.v, c.n)
		} else {
			errno = e.Bit(s, c.at, c.bit)
		}
		if errno != api.OK {
			t.Fatalf("the encoder: error %d", errno)
		}
	}
	return e.Bytes()
}

// take: one step of a row: does the decoder answer it? An answer must be the step's.
func take(t *testing.T, d *rcdec.Decoder, s *prob.Set, c step) api.Errno {
	t.Helper()
	if c.at < 0 {
		v, e := d.Direct(c.n)
		if want := uint32(uint64(c.v) & (1<<c.n - 1)); e == api.OK && v != want {
			t.Fatalf("Direct(%d): %X, want %X", c.n, v, want)
		}
		return e
	}
	bit, e := d.Bit(s, c.at)
	if e == api.OK && bit != c.bit {
		t.Fatalf("Bit of number %d: %d, want %d", c.at, bit, c.bit)
	}
	return e
}

// wantAlike: two sets that stand alike.
func wantAlike(t *testing.T, s, want *prob.Set) {
	t.Helper()
	for i := range want.Len() {
		p, _ := s.At(i)
		if q, _ := want.At(i); p != q {
			t.Fatalf("At(%d) is %d, want %d", i, p, q)
		}
	}
}

// P8.6: rows of bits by probabilities, without, and mixed, there and back: the same bits, sets that stand alike, all bytes read, Done; with bytes behind them just these are not read.
func TestThereAndBack(t *testing.T) {
	r := rand.New(rand.NewSource(861))
	tails := [][]byte{nil, {0}, {0xFF}, {0, 0, 0, 0, 0}, {1, 2, 3}, bytes.Repeat([]byte{0xFF}, 300)}
	for _, kind := range []int{byProbability, without, mixed} {
		for _, zeros := range []int{0, 1, 30, 50, 90, 100} {
			for _, long := range []int{0, 1, 2, 7, 8, 40, 1500} {
				begin := made(t, 4)
				for range r.Intn(300) {
					begin.Turn(r.Intn(4), r.Intn(2))
				}
				there, steps := begin.Fork(), chanceSteps(r, kind, 4, zeros, long)
				b := encoded(t, there, steps)
				for _, tail := range tails {
					d, back := begun(t, append(bytes.Clone(b), tail...)...), begin.Fork()
					for k, c := range steps {
						if e := take(t, d, back, c); e != api.OK {
							t.Fatalf("step %d: error %d", k, e)
						}
					}
					wantAlike(t, back, there)
					wantEnd(t, d, len(b), len(tail) == 0)
				}
			}
		}
	}
}

// P8.6: by probabilities that begin at their ends, both the likely bits and the others.
func TestThereAndBackFromTheEnds(t *testing.T) {
	r := rand.New(rand.NewSource(862))
	for _, end := range ends {
		for _, zeros := range []int{0, 2, 50, 98, 100} {
			there, back := driven(t, 2, end.bit, end.times), driven(t, 2, end.bit, end.times)
			steps := chanceSteps(r, mixed, 2, zeros, 2000)
			b := encoded(t, there, steps)
			d := begun(t, b...)
			for k, c := range steps {
				if e := take(t, d, back, c); e != api.OK {
					t.Fatalf("step %d: error %d", k, e)
				}
			}
			wantAlike(t, back, there)
			wantEnd(t, d, len(b), true)
		}
	}
}

// P8.6: bytes with carries through long runs of FF.
func TestThereAndBackThroughCarries(t *testing.T) {
	for _, long := range []int{1, 3, 4, 50, 3000} {
		for _, last := range []uint32{0, 1, 1 << 31, 1<<32 - 1} {
			e := rcenc.New()
			for range long {
				e.Direct(1<<32-1, 32)
			}
			e.Direct(last, 32)
			d := begun(t, e.Bytes()...)
			for range long {
				wantDirect(t, d, 32, 1<<32-1)
			}
			wantDirect(t, d, 32, last)
			wantEnd(t, d, e.Size(), true)
		}
	}
}

// P8.6: at each place of a row the encoder is asked for its bytes: a decoder of these answers just the bits so far, and is Done.
func TestThereAndBackAtEachPlace(t *testing.T) {
	r := rand.New(rand.NewSource(863))
	steps := chanceSteps(r, mixed, 3, 60, 120)
	for n := range steps {
		there, back := made(t, 3), made(t, 3)
		b := encoded(t, there, steps[:n])
		d := begun(t, b...)
		for k, c := range steps[:n] {
			if e := take(t, d, back, c); e != api.OK {
				t.Fatalf("step %d of %d: error %d", k, n, e)
			}
		}
		wantAlike(t, back, there)
		wantEnd(t, d, len(b), true)
	}
}

// P8.6: each of the rows of eight bits by two probabilities.
func TestThereAndBackOfEveryShortRow(t *testing.T) {
	for v := range 256 {
		steps := make([]step, 8)
		for k := range steps {
			steps[k] = step{at: k % 2, bit: v >> k & 1}
		}
		there, back := made(t, 2), made(t, 2)
		b := encoded(t, there, steps)
		d := begun(t, b...)
		for _, c := range steps {
			if e := take(t, d, back, c); e != api.OK {
				t.Fatalf("error %d", e)
			}
		}
		wantAlike(t, back, there)
		wantEnd(t, d, len(b), true)
	}
}

// P8.7: beginnings of every length: the same bits as of all bytes, till ErrTruncated, where all of the beginning is read (but for what a Direct that was refused gave back).
func TestBeginnings(t *testing.T) {
	r := rand.New(rand.NewSource(871))
	for _, kind := range []int{byProbability, without, mixed} {
		for _, zeros := range []int{10, 50, 95} {
			steps := chanceSteps(r, kind, 3, zeros, 400)
			b := encoded(t, made(t, 3), steps)
			last := 0
			for n := range len(b) {
				d, e := rcdec.New(b[:n])
				if n < 5 {
					if d != nil || e != api.ErrTruncated {
						t.Fatalf("New of %d bytes: error %d", n, e)
					}
					continue
				}
				if e != api.OK {
					t.Fatalf("New of %d bytes: error %d", n, e)
				}
				k, s := 0, made(t, 3)
				for e == api.OK {
					e = take(t, d, s, steps[k])
					k++
				}
				if e != api.ErrTruncated || k < last {
					t.Fatalf("of %d bytes: error %d behind %d steps; of one less %d", n, e, k, last)
				}
				if d.Used() > n || kind == byProbability && d.Used() != n {
					t.Fatalf("of %d bytes %d are used", n, d.Used())
				}
				last = k
			}
		}
	}
}

// P8.7: so of any bytes, also such as no encoder makes: a beginning answers what all of them answer, and what all of them refuse by ErrFormat, it refuses too.
func TestBeginningsOfAnyBytes(t *testing.T) {
	r := rand.New(rand.NewSource(872))
	for range 60 {
		b := chanceBytes(r, 5+r.Intn(30))
		steps := chanceSteps(r, mixed, 2, 50, 400)
		for n := 5; n <= len(b); n++ {
			all, part := begun(t, b...), begun(t, b[:n]...)
			s, q := made(t, 2), made(t, 2)
			for _, c := range steps {
				if c.at < 0 {
					v, e := part.Direct(c.n)
					if e == api.ErrTruncated {
						break
					}
					if w, f := all.Direct(c.n); v != w || e != f {
						t.Fatalf("Direct(%d): %X, error %d; of all %X, error %d", c.n, v, e, w, f)
					}
				} else {
					bit, e := part.Bit(s, c.at)
					if e == api.ErrTruncated {
						break
					}
					wantBit(t, all, q, c.at, bit)
				}
				if part.Used() != all.Used() {
					t.Fatalf("Used is %d, of all %d", part.Used(), all.Used())
				}
				wantAlike(t, s, q)
			}
		}
	}
}
