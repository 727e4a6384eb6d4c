package lzdec

import (
	"pith/api"
	"pith/prob"
	"pith/rcdec"
	"pith/tree"
)

// source: bits and numbers from the packed bytes. Behind the first one that is refused there are zeros alone; so it is asked once a symbol whether it has failed, not once a bit.
type source struct {
	in     *rcdec.Decoder
	failed bool
}

// got: v, if it was read.
func (s *source) got(v int, errno api.Errno) int {
	s.failed = s.failed || errno != api.OK
	if s.failed {
		return 0
	}
	return v
}

func (s *source) bit(row *prob.Set, i int) int { return s.got(s.in.Bit(row, i)) }

func (s *source) tree(row *prob.Set, n int) int { return s.got(tree.Get(s.in, row, 0, n)) }

func (s *source) back(row *prob.Set, n int) int { return s.got(tree.GetBack(s.in, row, 0, n)) }

func (s *source) direct(n int) int {
	v, errno := s.in.Direct(n)
	return s.got(int(v), errno)
}
