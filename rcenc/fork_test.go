package rcenc_test

import (
	"math/rand"
	"testing"

	"pith/rcenc"
)

// P7.4: a fork has the same bytes, and goes on to the same ones.
func TestForkIsTheSame(t *testing.T) {
	r := rand.New(rand.NewSource(741))
	for _, n := range []int{0, 1, 2, 10, 300} {
		p := newPair(t, 2)
		for range n {
			p.chance(t, r)
		}
		f := p.fork(t)
		p.same(t)
		f.same(t)
		for range 100 {
			v, k, i, bit := r.Uint32(), r.Intn(33), r.Intn(2), chanceBit(r)
			p.direct(t, v, k)
			p.bit(t, i, bit)
			f.direct(t, v, k)
			f.bit(t, i, bit)
		}
		f.same(t)
		wantBytes(t, f.e, p.e.Bytes()...)
	}
}

// P7.4: neither sees what is done to the other, whichever goes on first.
func TestForkIsApart(t *testing.T) {
	r := rand.New(rand.NewSource(742))
	for _, first := range []bool{false, true} {
		for _, n := range []int{0, 1, 5, 60} {
			p := newPair(t, 2)
			for range n {
				p.chance(t, r)
			}
			f := p.fork(t)
			if first {
				p, f = f, p
			}
			for range 50 {
				p.chance(t, r)
			}
			p.same(t)
			f.same(t)
			for range 50 {
				f.chance(t, r)
			}
			p.same(t)
			f.same(t)
			for range 50 {
				p.chance(t, r)
				f.chance(t, r)
				p.same(t)
				f.same(t)
			}
		}
	}
}

// P7.4: forks of forks, coded by and forked again in turns by chance, each held against numbers of its own.
func TestForksInTurns(t *testing.T) {
	r := rand.New(rand.NewSource(743))
	for range 10 {
		all := []*pair{newPair(t, 3)}
		for range 150 {
			k := r.Intn(len(all))
			if len(all) < 8 && r.Intn(10) == 0 {
				all = append(all, all[k].fork(t))
			}
			all[k].chance(t, r)
			for _, p := range all {
				p.same(t)
			}
		}
	}
}

// P7.4: sets are not forked: both encoders move the caller's one.
func TestForkLeavesTheSet(t *testing.T) {
	e, s := begun(t), made(t, 1)
	code(t, e, s, 0, 0)
	f := e.Fork()
	wantRow(t, s, []int{1056})
	code(t, f, s, 0, 0)
	wantRow(t, s, []int{1087})
	code(t, e, s, 0, 1)
	wantRow(t, s, []int{1054})
}

// P7.4: the chapter's row of twelve bits, gone on with behind the sixth by the first one and by its fork.
func TestForkOfTheExample(t *testing.T) {
	e, s := begun(t), made(t, 1)
	for _, bit := range []int{1, 0, 1, 1, 0, 0} {
		code(t, e, s, 0, bit)
	}
	f, q := e.Fork(), s.Fork()
	direct(t, e, 0xABCD, 16)
	for _, bit := range []int{1, 0, 1, 1, 1, 1} {
		code(t, f, q, 0, bit)
	}
	wantBytes(t, f, 0, 0xB0, 0xB0, 0x52, 0x34, 0x22)
	for _, one := range []*rcenc.Encoder{e.Fork(), f.Fork(), f} {
		direct(t, one, 1, 1)
	}
	wantBytes(t, f.Fork(), f.Bytes()...)
}
