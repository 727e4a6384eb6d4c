package model

import "pith/prob"

// row: n probabilities. None is refused: all rows of a coder are far shorter than prob allows.
func row(n int) *prob.Set {
	s, _ := prob.New(n)
	return s
}

// rows: so many rows of n each.
func rows(many, n int) []*prob.Set {
	l := make([]*prob.Set, many)
	for i := range l {
		l[i] = row(n)
	}
	return l
}

func forks(l []*prob.Set) []*prob.Set {
	other := make([]*prob.Set, len(l))
	for i, s := range l {
		other[i] = s.Fork()
	}
	return other
}
