package index

import (
	"pith/api"
	"pith/wire"
)

// The unpadded sizes that are right: the padded size of the greatest is a number still.
const (
	leastUnpadded = 5
	mostUnpadded  = api.MaxNumber - 3
)

// sums: what the records that were taken have together: their padded sizes and their plain ones. Neither is ever above MaxNumber.
type sums struct {
	padded, plain int
}

// take: one record more; false: it is not right, or they would be too much together.
func (s *sums) take(r api.Record) bool {
	return s.takeUnpadded(r.Unpadded) && s.takePlain(r.Size)
}

// takeUnpadded: the first half of that.
func (s *sums) takeUnpadded(n int) bool {
	return n >= leastUnpadded && n <= mostUnpadded && add(&s.padded, n+wire.Pad(n))
}

// takePlain: the second half.
func (s *sums) takePlain(n int) bool {
	return n >= 0 && add(&s.plain, n)
}

// add: n, which is from 0 on, to a sum, if the sum stays a number.
func add(sum *int, n int) bool {
	// Held against what is left: together the two could wrap.
	if n > api.MaxNumber-*sum {
		return false
	}
	*sum += n
	return true
}

// areRight: is it a list of records that is right?
func areRight(l []api.Record) bool {
	var all sums
	for _, r := range l {
		if !all.take(r) {
			return false
		}
	}
	return true
}
