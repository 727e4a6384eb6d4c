package prob_test

import (
	"math/rand"
	"slices"
	"testing"

	"pith/api"
	"pith/prob"
)

// P6.4: rows that are too short or too long: no Set, ErrRange.
func TestNewOfNoRow(t *testing.T) {
	for _, n := range []int{-1, -2, -1024, -1 << 31, -1 << 32, least, least + 1, least + 5, longest + 1, longest + 2, 2 * longest, 1 << 31, 1 << 32, 1<<32 + 1, 1 << 62, greatest - 1, greatest} {
		if s, e := prob.New(n); s != nil || e != api.ErrRange {
			t.Errorf("New(%d): %v, error %d; want nil, ErrRange", n, s, e)
		}
	}
}

// P6.4: every probability of a new row is Half, the last one too.
func TestNewIsHalf(t *testing.T) {
	for _, n := range []int{0, 1, 2, 3, 7, 8, 255, 256, 1000, 65536} {
		wantRow(t, made(t, n), halves(n))
	}
}

// P6.4: the longest row.
func TestNewOfTheLongestRow(t *testing.T) {
	s := made(t, longest)
	wantRow(t, s, halves(longest))
	turn(t, s, 0, 0)
	turn(t, s, longest-1, 1)
	if e := s.Turn(longest, 0); e != api.ErrRange {
		t.Errorf("Turn behind the last one: error %d", e)
	}
	want := halves(longest)
	want[0], want[longest-1] = 1056, 992
	wantRow(t, s, want)
	s.Reset()
	wantRow(t, s, halves(longest))
}

// P6.4: a row of none has no number, whatever is done to it.
func TestRowOfNone(t *testing.T) {
	s := made(t, 0)
	for _, i := range slices.Concat([]int{0, 1, 2}, outside) {
		noPlace(t, s, i)
		if e := s.Turn(i, 0); e != api.ErrRange {
			t.Errorf("Turn(%d, 0): error %d", i, e)
		}
	}
	s.Reset()
	wantRow(t, s, nil)
	wantRow(t, s.Fork(), nil)
}

// P6.4: the chapter's example of a row of two.
func TestRowOfTheExamples(t *testing.T) {
	s := made(t, 2)
	wantAt(t, s, 0, 1024)
	wantAt(t, s, 1, 1024)
	noPlace(t, s, 2)
	noPlace(t, s, -1)
	turn(t, s, 1, 0)
	if e := s.Turn(2, 0); e != api.ErrRange {
		t.Errorf("Turn(2, 0): error %d", e)
	}
	wantRow(t, s, []int{1024, 1056})
	f := s.Fork()
	turn(t, s, 1, 1)
	wantAt(t, f, 1, 1056)
	wantAt(t, s, 1, 1023)
	s.Reset()
	wantAt(t, s, 1, 1024)
	wantAt(t, f, 1, 1056)
}

// P6.4, W5: a number that is not there is ErrRange; a Turn that is refused changes nothing.
func TestPlacesThatAreNotThere(t *testing.T) {
	for _, n := range []int{1, 2, 5, 100} {
		s := made(t, n)
		want := halves(n)
		for i := range n {
			turn(t, s, i, i%2)
			want[i] = moved(1024, i%2)
		}
		for _, i := range slices.Concat([]int{n, n + 1, 2 * n, -n, -n - 1}, outside) {
			noPlace(t, s, i)
			for _, bit := range []int{0, 1, 7, -1} {
				if e := s.Turn(i, bit); e != api.ErrRange {
					t.Errorf("Turn(%d, %d) of a row of %d: error %d", i, bit, n, e)
				}
			}
			wantRow(t, s, want)
		}
	}
}

// P6.4: each number is turned by itself, the first and the last one too.
func TestTurnMovesOneAlone(t *testing.T) {
	for _, n := range []int{1, 2, 3, 17} {
		for i := range n {
			for _, bit := range []int{0, 1} {
				s := made(t, n)
				turn(t, s, i, bit)
				want := halves(n)
				want[i] = moved(1024, bit)
				wantRow(t, s, want)
			}
		}
	}
}

// P6.4: a bit that is not 0 counts as 1.
func TestTurnByAnyBit(t *testing.T) {
	for _, bit := range ones {
		s := made(t, 1)
		turn(t, s, 0, bit)
		wantRow(t, s, []int{992})
		turn(t, s, 0, bit)
		wantRow(t, s, []int{961})
	}
}

// P6.4: each turn is Next of what was there, over turns by chance with a Reset now and then.
func TestTurnIsNext(t *testing.T) {
	r := rand.New(rand.NewSource(641))
	s, want := made(t, 9), halves(9)
	for range 20000 {
		if r.Intn(500) == 0 {
			s.Reset()
			want = halves(9)
		}
		i, bit := r.Intn(9), chanceBit(r)
		turn(t, s, i, bit)
		want[i] = moved(want[i], bit)
		wantAt(t, s, i, want[i])
		wantAt(t, s, 8-i, want[8-i])
	}
	wantRow(t, s, want)
}

// P6.4: asking changes nothing.
func TestAskingChangesNothing(t *testing.T) {
	s := made(t, 3)
	turn(t, s, 2, 0)
	for range 3 {
		s.Len()
		s.Fork()
		for _, i := range outside {
			s.At(i)
		}
		wantRow(t, s, []int{1024, 1024, 1056})
	}
}

// P6.4: Reset of rows that were turned, and of one that was not.
func TestResetIsHalf(t *testing.T) {
	for _, n := range []int{0, 1, 2, 33} {
		s := made(t, n)
		s.Reset()
		wantRow(t, s, halves(n))
		for k := range 200 {
			for i := range n {
				turn(t, s, i, (k+i)%3)
			}
		}
		s.Reset()
		wantRow(t, s, halves(n))
		s.Reset()
		wantRow(t, s, halves(n))
	}
}
