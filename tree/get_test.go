package tree_test

import (
	"math/rand"
	"testing"

	"pith/api"
	"pith/prob"
	"pith/rcdec"
)

// told: a number read by the words of the chapter, bit by bit; also how many bits were there.
func told(o order, d *rcdec.Decoder, s *prob.Set, at, n int) (int, int, api.Errno) {
	m, v := 1, 0
	for k := range n {
		bit, errno := d.Bit(s, at+m)
		if errno != api.OK {
			return 0, k, errno
		}
		m = 2*m + bit
		v += bit * o.worth(n, k)
	}
	return v, n, api.OK
}

// P9.3: any bytes, trees of every depth, till the bytes are at their end: what the decoder's Bit answers along the way.
func TestGetOfAnyBytes(t *testing.T) {
	r := rand.New(rand.NewSource(931))
	for _, o := range orders {
		for range 150 {
			b := chanceBytes(r, 5+r.Intn(60))
			d, twin := begun(t, b...), begun(t, b...)
			s := chanceRow(t, r, 300)
			row := s.Fork()
			for errno := api.OK; errno == api.OK; {
				n := r.Intn(9)
				at := r.Intn(300 - 1<<n + 1)
				var want int
				want, _, errno = told(o, twin, row, at, n)
				if errno == api.OK {
					wantGet(t, o, d, s, at, n, want)
				} else {
					noGet(t, o, d, s, at, n, errno)
				}
				wantAlike(t, s, row)
			}
			wantBoth(t, d, twin)
		}
	}
}

// P9.3: the deepest trees, at the front and at the end of their row.
func TestGetOfTheDeepestTrees(t *testing.T) {
	r := rand.New(rand.NewSource(932))
	for _, o := range orders {
		for n := 9; n <= 16; n++ {
			b := chanceBytes(r, 60)
			d, twin := begun(t, b...), begun(t, b...)
			s, row := made(t, 1<<n+3), made(t, 1<<n+3)
			for _, at := range []int{0, 3, 1, 3, 0} {
				want, _, errno := told(o, twin, row, at, n)
				if errno != api.OK {
					t.Fatalf("error %d", errno)
				}
				wantGet(t, o, d, s, at, n, want)
			}
			wantAlike(t, s, row)
			wantBoth(t, d, twin)
		}
	}
}

// P9.3: the first bit is the highest, or back the lowest: bytes whose first bit is a 1 and all others 0.
func TestGetOfAFirstBit(t *testing.T) {
	for _, o := range orders {
		for n := 1; n <= 16; n++ {
			d, s := begun(t, 0, 0x7F, 0xFF, 0xFC, 0, 0, 0, 0, 0, 0), made(t, 1<<n)
			wantGet(t, o, d, s, 0, n, o.worth(n, 0))
			want := map[int]int{1: 992}
			for k := 1; k < n; k++ {
				want[3<<(k-1)] = 1056
			}
			wantRow(t, s, want)
		}
	}
}

// P9.3: no bits are always there: the answer is 0, and nothing is read.
func TestGetOfNoBits(t *testing.T) {
	for _, o := range orders {
		d, twin, s := begun(t, 0, 1, 2, 3, 4), begun(t, 0, 1, 2, 3, 4), made(t, 9)
		for at := range 9 {
			wantGet(t, o, d, s, at, 0, 0)
		}
		wantRow(t, s, nil)
		wantBoth(t, d, twin)
	}
}

// P9.3: of five bytes 0 so many bits by halves are there, less those that were read ahead: the number ends at each of its bits, and what is ahead of that one has been read.
func TestGetRunsOutAtEachBit(t *testing.T) {
	for _, o := range orders {
		for ahead := range 8 {
			bits := 7 - ahead
			d, twin := begun(t, 0, 0, 0, 0, 0), begun(t, 0, 0, 0, 0, 0)
			if _, errno := d.Direct(ahead); errno != api.OK {
				t.Fatalf("Direct(%d): error %d", ahead, errno)
			}
			s, row := made(t, 300), made(t, 300)
			noGet(t, o, d, s, 20, 8, api.ErrTruncated)
			want := map[int]int{}
			for k := range bits {
				want[20+1<<k] = 1056
			}
			wantRow(t, s, want)
			if d.Used() != 5 {
				t.Errorf("Used is %d", d.Used())
			}
			twin.Direct(ahead)
			told(o, twin, row, 20, bits)
			wantAlike(t, s, row)
			wantBoth(t, d, twin)
		}
	}
}

// P9.3: trees of every depth that end at their first bit, at one between and at their last.
func TestGetRunsOutAnywhere(t *testing.T) {
	r := rand.New(rand.NewSource(933))
	for _, o := range orders {
		met := map[[2]int]bool{}
		for range 4000 {
			b, n := chanceBytes(r, 5+r.Intn(3)), 1+r.Intn(10)
			d, twin := begun(t, b...), begun(t, b...)
			ahead := r.Intn(24)
			if _, errno := d.Direct(ahead); errno != api.OK {
				continue
			}
			twin.Direct(ahead)
			s := chanceRow(t, r, 1<<n)
			row := s.Fork()
			want, bits, errno := told(o, twin, row, 0, n)
			if errno == api.OK {
				wantGet(t, o, d, s, 0, n, want)
			} else {
				noGet(t, o, d, s, 0, n, api.ErrTruncated)
				met[[2]int{n, bits}] = true
			}
			wantAlike(t, s, row)
			wantBoth(t, d, twin)
		}
		for n := 1; n <= 10; n++ {
			if !met[[2]int{n, 0}] || !met[[2]int{n, n / 2}] || !met[[2]int{n, n - 1}] {
				t.Errorf("%s: of %d bits not every end was met", o.name, n)
			}
		}
	}
}

// P9.3: behind a refusal the decoder goes on with what it still has.
func TestGetGoesOnBehindARefusal(t *testing.T) {
	for _, o := range orders {
		d, s := begun(t, 0, 0, 0, 0, 0), made(t, 16)
		if _, errno := d.Direct(5); errno != api.OK {
			t.Fatalf("Direct: error %d", errno)
		}
		noGet(t, o, d, s, 0, 3, api.ErrTruncated)
		wantRow(t, s, map[int]int{1: 1056, 2: 1056})
		noGet(t, o, d, s, 8, 1, api.ErrTruncated)
		wantGet(t, o, d, s, 8, 0, 0)
		wantRow(t, s, map[int]int{1: 1056, 2: 1056})
		wantGet(t, o, d, s, 0, 1, 0) // a likelier bit leaves the range wide enough
		wantRow(t, s, map[int]int{1: 1087, 2: 1056})
		if d.Used() != 5 || !d.Done() {
			t.Errorf("Used is %d, Done %v", d.Used(), d.Done())
		}
	}
}
