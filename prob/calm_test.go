package prob_test

import (
	"math/rand"
	"slices"
	"sync"
	"testing"

	"pith/api"
	"pith/prob"
)

// P6.8: every call ends, at all edges at once.
func TestEveryCallEnds(t *testing.T) {
	numbers := slices.Concat(below, above, outside, ones, []int{0, 1, 31, 1024, 2017, 2047})
	for _, p := range numbers {
		for _, bit := range numbers {
			prob.Next(p, bit)
			prob.Cost(p, bit)
		}
		for _, rng := range ranges {
			prob.Bound(rng, p)
		}
	}
	for _, n := range []int{-1, 0, 1, 2, 2047, longest, longest + 1, least, greatest} {
		s, e := prob.New(n)
		if (s == nil) != (e != api.OK) {
			t.Errorf("New(%d): %v, error %d", n, s, e)
		}
		if s == nil {
			continue
		}
		for _, i := range numbers {
			s.At(i)
			s.Turn(i, i)
		}
		s.Reset()
		s.Fork().Reset()
		if s.Len() != n {
			t.Errorf("Len is %d, want %d", s.Len(), n)
		}
	}
}

// P6.8: New and Fork apart, no call takes memory.
func TestNoMemoryIsTaken(t *testing.T) {
	s := made(t, 100)
	sum := 0
	for name, call := range map[string]func(){
		"Next":  func() { sum += prob.Next(sum%2048, 0) + prob.Next(sum, 1) },
		"Bound": func() { sum += int(prob.Bound(uint32(sum), sum%2048)) },
		"Cost":  func() { sum += prob.Cost(sum%2048, 0) + prob.Cost(sum, 1) },
		"Len":   func() { sum += s.Len() },
		"At":    func() { p, _ := s.At(99); q, e := s.At(100); sum += p + q + int(e) },
		"Turn":  func() { sum += int(s.Turn(99, sum%2)) + int(s.Turn(-1, 0)) },
		"Reset": func() { s.Reset() },
		"New":   func() { _, e := prob.New(-1); sum += int(e) },
	} {
		if n := testing.AllocsPerRun(100, call); n != 0 {
			t.Errorf("%s takes memory %v times", name, n)
		}
	}
}

// P6.8: a fork is as long as its row, and takes one piece of memory for it, not one a probability.
func TestLittleMemoryIsTaken(t *testing.T) {
	s := made(t, 1000)
	if n := testing.AllocsPerRun(20, func() { s = s.Fork() }); n > 3 {
		t.Errorf("Fork takes memory %v times", n)
	}
	if n := testing.AllocsPerRun(20, func() { s, _ = prob.New(1000) }); n > 3 {
		t.Errorf("New takes memory %v times", n)
	}
}

// W2: two rows know nothing of one another, and calls of one change no answer of the other.
func TestRowsAreApart(t *testing.T) {
	a, b := made(t, 2), made(t, 2)
	turn(t, a, 0, 0)
	turn(t, b, 1, 1)
	wantRow(t, a, []int{1056, 1024})
	wantRow(t, b, []int{1024, 992})
	a.Reset()
	wantRow(t, a, halves(2))
	wantRow(t, b, []int{1024, 992})
	wantRow(t, made(t, 2), halves(2))
}

// W2: how goroutines run is not to be seen: each has a fork of its own, while all ask the one that they come from.
func TestManyAtOnce(t *testing.T) {
	parent := made(t, 5)
	turn(t, parent, 3, 0)
	var group sync.WaitGroup
	for k := range 8 {
		group.Go(func() {
			r := rand.New(rand.NewSource(int64(681 + k)))
			s, want := parent.Fork(), []int{1024, 1024, 1024, 1056, 1024}
			for range 2000 {
				i, bit := r.Intn(5), chanceBit(r)
				s.Turn(i, bit)
				want[i] = moved(want[i], bit)
				if p, e := s.At(i); p != want[i] || e != api.OK {
					t.Errorf("At(%d) is %d, error %d; want %d", i, p, e, want[i])
				}
				if p, _ := parent.At(3); p != 1056 || parent.Len() != 5 {
					t.Errorf("the row that was forked has %d", p)
				}
				if c := prob.Cost(want[i], 0); c != costOf(want[i]) {
					t.Errorf("Cost(%d, 0) is %d", want[i], c)
				}
			}
		})
	}
	group.Wait()
}
