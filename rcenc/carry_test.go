package rcenc_test

import (
	"bytes"
	"math/big"
	"math/rand"
	"testing"

	"pith/api"
)

// steered: a pair, and a round number within its range, above its low end: while it stays so, the digits of the low end are those of one less, FF at the end.
type steered struct {
	*pair
	mark   *big.Int
	shifts int
}

func steer(p *pair) *steered {
	m := new(big.Int).SetUint64(p.u.span / 2)
	m.Add(m, p.u.low)
	m.Rsh(m, 16)
	return &steered{p, m.Lsh(m, 16), p.u.shifts}
}

// above: is the low end with v more beyond the mark (1), at it (0), or below (-1)?
func (c *steered) above(v uint64) int {
	for ; c.shifts < c.u.shifts; c.shifts++ {
		c.mark.Mul(c.mark, big.NewInt(256))
	}
	return new(big.Int).Add(c.u.low, new(big.Int).SetUint64(v)).Cmp(c.mark)
}

// toward: a bit that keeps the mark within the range and above the low end.
func (c *steered) toward(t *testing.T, r *rand.Rand) {
	t.Helper()
	cut, i := c.u.span/2, -1
	if len(c.u.row) > 0 && r.Intn(2) == 0 {
		i = r.Intn(len(c.u.row))
		cut = c.u.bound(i)
	}
	side := c.above(cut)
	if side == 0 {
		return
	}
	bit := 0
	if side < 0 {
		bit = 1
	}
	if i < 0 {
		c.direct(t, uint32(bit), 1)
	} else {
		c.bit(t, i, bit)
	}
}

// run: how many digits FF stand behind one another ahead of the last four.
func (c *steered) run() int {
	b := c.u.bytes()
	b = b[:len(b)-4]
	return len(b) - len(bytes.TrimRight(b, "\xFF"))
}

// cross: the next bit that can lift the low end over the mark does so: a carry through the run. It answers how long that was.
func (c *steered) cross(t *testing.T) int {
	t.Helper()
	for c.above(c.u.span/2) < 0 {
		c.direct(t, 1, 1)
	}
	long := c.run()
	c.direct(t, 1, 1)
	if c.above(0) < 0 {
		t.Fatal("no carry")
	}
	return long
}

// stay: the range ends at or below the mark from here on: no carry any more.
func (c *steered) stay(t *testing.T) {
	t.Helper()
	for c.above(c.u.span/2) > 0 {
		c.direct(t, 0, 1)
	}
	c.direct(t, 0, 1)
}

// upTo: steered until the run is that long.
func (c *steered) upTo(t *testing.T, r *rand.Rand, long int) {
	t.Helper()
	for k := 0; c.run() < long; k++ {
		if k > 40*(long+10) {
			t.Fatalf("no run of %d", long)
		}
		c.toward(t, r)
		c.above(0)
	}
}

// P7.1, P7.2, P7.3: the low end is carried through no, one, two and many bytes FF that have long been shifted up.
func TestCarryThroughRuns(t *testing.T) {
	r := rand.New(rand.NewSource(731))
	met := map[int]int{}
	for _, n := range []int{0, 1, 4} {
		for _, long := range []int{0, 1, 2, 3, 4, 5, 7, 8, 16, 100, 700} {
			for range 6 {
				p := newPair(t, n)
				for range r.Intn(60) {
					p.chance(t, r)
				}
				c := steer(p)
				c.upTo(t, r, long)
				c.same(t)
				met[c.cross(t)]++
				c.same(t)
				for range 40 {
					p.chance(t, r)
				}
				c.same(t)
			}
		}
	}
	for _, long := range []int{0, 1, 2, 3, 16, 100, 700} {
		if met[long] == 0 {
			t.Errorf("no carry went through just %d digits: %v", long, met)
		}
	}
}

// P7.3: a run that is not carried into stays, and so does what stands ahead of it.
func TestRunsThatStay(t *testing.T) {
	r := rand.New(rand.NewSource(732))
	for _, long := range []int{0, 1, 2, 3, 10, 200} {
		for range 6 {
			p := newPair(t, 2)
			for range r.Intn(60) {
				p.chance(t, r)
			}
			c := steer(p)
			c.upTo(t, r, long)
			c.stay(t)
			c.same(t)
			for range 40 {
				p.chance(t, r)
			}
			c.same(t)
		}
	}
}

// P7.3: one encoder, carried into again and again.
func TestCarriesInTurns(t *testing.T) {
	r := rand.New(rand.NewSource(733))
	for range 10 {
		p := newPair(t, 3)
		for range 40 {
			c := steer(p)
			c.upTo(t, r, r.Intn(5))
			if r.Intn(3) == 0 {
				c.stay(t)
			} else {
				c.cross(t)
			}
			c.same(t)
			for range r.Intn(3) {
				p.chance(t, r)
			}
		}
		p.same(t)
	}
}

// P7.3: carries written out: through no, one and two bytes FF that have been shifted up.
func TestCarryWrittenOut(t *testing.T) {
	for _, c := range []struct {
		zeros         int
		before, after []byte
	}{
		{0, []byte{0, 0x7F, 0xFF, 0xFF, 0xFF, 0}, []byte{0, 0x80, 0x7F, 0xFF, 0xFE, 0x80}},
		{8, []byte{0, 0x7F, 0xFF, 0xFF, 0xFF, 0, 0}, []byte{0, 0x80, 0, 0x7F, 0xFE, 0xFF, 0x80}},
		{16, []byte{0, 0x7F, 0xFF, 0xFF, 0xFF, 0, 0, 0}, []byte{0, 0x80, 0, 0, 0x7E, 0xFF, 0xFF, 0x80}},
	} {
		e := begun(t)
		direct(t, e, 0x80, 8)
		direct(t, e, 0, c.zeros)
		wantBytes(t, e, c.before...)
		direct(t, e, 1, 1)
		wantBytes(t, e, c.after...)
	}
}

// P7.4: forks within a run: one is carried into, the other is not, whichever goes first; a fork of the one goes on too.
func TestForksWithinARun(t *testing.T) {
	r := rand.New(rand.NewSource(734))
	for _, long := range []int{0, 1, 2, 3, 50} {
		for _, first := range []bool{false, true} {
			p := newPair(t, 2)
			for range 20 {
				p.chance(t, r)
			}
			c := steer(p)
			c.upTo(t, r, long)
			c.above(0)
			f := &steered{p.fork(t), new(big.Int).Set(c.mark), c.shifts}
			if first {
				c, f = f, c
			}
			c.cross(t)
			c.same(t)
			f.same(t)
			g := &steered{f.fork(t), new(big.Int).Set(f.mark), f.shifts}
			f.stay(t)
			g.same(t)
			g.cross(t)
			for _, each := range []*steered{c, f, g} {
				each.same(t)
				for range 10 {
					each.chance(t, r)
				}
			}
			for _, each := range []*steered{c, f, g} {
				each.same(t)
			}
		}
	}
}

// P7.1, P7.2: what is refused within a run changes nothing.
func TestRefusedWithinARun(t *testing.T) {
	r := rand.New(rand.NewSource(735))
	p := newPair(t, 2)
	c := steer(p)
	c.upTo(t, r, 3)
	if e := p.e.Bit(p.s, 2, 1); e != api.ErrRange {
		t.Errorf("Bit of number 2 of 2: error %d", e)
	}
	if e := p.e.Direct(1, 33); e != api.ErrRange {
		t.Errorf("Direct(1, 33): error %d", e)
	}
	c.same(t)
	c.cross(t)
	c.same(t)
}
