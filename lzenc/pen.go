package lzenc

import (
	"pith/prob"
	"pith/rcenc"
	"pith/tree"
)

// pen: what is done with a symbol's bits. So what they are is said once, for coding and for costing.
// No error comes back: each number is one of its row, each value one of its tree.
type pen interface {
	bit(s *prob.Set, i, bit int)
	tree(s *prob.Set, n, v int)
	back(s *prob.Set, n, v int)
	direct(v, n int)
}

// coding: they are coded, and their probabilities move.
type coding struct {
	out *rcenc.Encoder
}

func (c coding) bit(s *prob.Set, i, bit int) { c.out.Bit(s, i, bit) }

func (c coding) tree(s *prob.Set, n, v int) { tree.Put(c.out, s, 0, n, v) }

func (c coding) back(s *prob.Set, n, v int) { tree.PutBack(c.out, s, 0, n, v) }

func (c coding) direct(v, n int) { c.out.Direct(uint32(v), n) }

// costing: what they cost is summed up, and nothing moves. (None of a symbol's bits goes by a probability that another one of them moves.)
type costing struct {
	sum int
}

func (c *costing) bit(s *prob.Set, i, bit int) {
	p, _ := s.At(i)
	c.sum += prob.Cost(p, bit)
}

func (c *costing) tree(s *prob.Set, n, v int) {
	cost, _ := tree.Cost(s, 0, n, v)
	c.sum += cost
}

func (c *costing) back(s *prob.Set, n, v int) {
	cost, _ := tree.CostBack(s, 0, n, v)
	c.sum += cost
}

// plainBit: what a bit without a probability costs.
const plainBit = 16

func (c *costing) direct(_, n int) { c.sum += plainBit * n }
