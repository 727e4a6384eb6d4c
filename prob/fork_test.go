package prob_test

import (
	"math/rand"
	"slices"
	"testing"

	"pith/api"
	"pith/prob"
)

// P6.5: a fork has the same probabilities, and a length of its own to refuse by.
func TestForkIsTheSame(t *testing.T) {
	for _, n := range []int{0, 1, 2, 50, longest} {
		s, want := made(t, n), halves(n)
		for i := range min(n, 40) {
			turn(t, s, i, i%2)
			want[i] = moved(1024, i%2)
		}
		f := s.Fork()
		if f == nil || f == s {
			t.Fatalf("a fork of a row of %d is no other row", n)
		}
		wantRow(t, f, want)
		wantRow(t, s, want)
		if e := f.Turn(n, 0); e != api.ErrRange {
			t.Errorf("Turn(%d, 0) of the fork: error %d", n, e)
		}
	}
}

// P6.5: neither sees what is done to the other, whichever is turned or reset first.
func TestForkIsApart(t *testing.T) {
	for _, turned := range []bool{false, true} {
		s := made(t, 3)
		turn(t, s, 0, 0)
		f := s.Fork()
		if turned {
			s, f = f, s
		}
		turn(t, f, 1, 1)
		wantRow(t, s, []int{1056, 1024, 1024})
		wantRow(t, f, []int{1056, 992, 1024})
		turn(t, s, 2, 0)
		wantRow(t, s, []int{1056, 1024, 1056})
		wantRow(t, f, []int{1056, 992, 1024})
		s.Reset()
		wantRow(t, s, halves(3))
		wantRow(t, f, []int{1056, 992, 1024})
		turn(t, s, 0, 1)
		f.Reset()
		wantRow(t, s, []int{992, 1024, 1024})
		wantRow(t, f, halves(3))
	}
}

// P6.5: forks of forks, turned, reset and forked again in turns by chance, each held against a row of its own.
func TestForksInTurns(t *testing.T) {
	r := rand.New(rand.NewSource(651))
	for range 30 {
		n := 1 + r.Intn(6)
		sets, wants := []*prob.Set{made(t, n)}, [][]int{halves(n)}
		for range 400 {
			k := r.Intn(len(sets))
			switch r.Intn(12) {
			case 0:
				if len(sets) < 8 {
					sets, wants = append(sets, sets[k].Fork()), append(wants, slices.Clone(wants[k]))
				}
			case 1:
				sets[k].Reset()
				wants[k] = halves(n)
			default:
				i, bit := r.Intn(n), chanceBit(r)
				turn(t, sets[k], i, bit)
				wants[k][i] = moved(wants[k][i], bit)
			}
			for j, s := range sets {
				wantRow(t, s, wants[j])
			}
		}
	}
}
