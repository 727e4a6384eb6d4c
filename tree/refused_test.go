package tree_test

import (
	"testing"

	"pith/api"
	"pith/rcenc"
)

// The numbers that each argument is tried with: the edges, and such as a sum or a shift would wrap to a number that is there.
var (
	someBits   = []int{-1, 0, 1, 2, 3, 15, 16, 17, 18, 31, 32, 62, 63, 64, 65, 256, -2, -16, -64, 1 << 31, 1 << 32, 1<<32 + 1, 1 << 62, least, least + 1, least + 3, greatest, greatest - 1}
	somePlaces = []int{-1, 0, 1, 2, -2, -3, -8, -1 << 16, -1 << 31, -1 << 32, least, least + 1, 1 << 20, 1 << 31, 1 << 32, 1<<32 + 1, 1 << 62, greatest, greatest - 1, greatest - 2, greatest - 7, greatest - 65535}
	someValues = []int{-1, 0, 1, 2, -2, -8, -1 << 16, -1 << 31, -1 << 32, least, least + 1, 1 << 16, 1 << 31, 1 << 32, 1<<32 + 1, 1 << 62, greatest, greatest - 1}
	someRows   = []int{0, 1, 2, 3, 8, 9, 100, 65535, 65536, 65537, 131072, 1 << 20}
)

// isThere: the words of the chapter, with no sum of what is out of bounds.
func isThere(long, at, n int) bool {
	if n < 0 || n > 16 || at < 0 || at > long {
		return false
	}
	return at+1<<n <= long
}

// placesOf: some, and those beside the last one at which a tree of n bits is in a row that long.
func placesOf(long, n int) []int {
	list := append([]int{long - 1, long, long + 1}, somePlaces...)
	if n >= 0 && n <= 17 {
		last := long - 1<<n
		list = append(list, last-1, last, last+1)
	}
	return list
}

// valuesOf: some, and those beside the last one that has n bits.
func valuesOf(n int) []int {
	if n < 0 || n > 17 {
		return someValues
	}
	return append([]int{1<<n - 2, 1<<n - 1, 1 << n, 1<<n + 1, -1 << n}, someValues...)
}

// P9.1: the chapter's examples.
func TestRefusedOfTheExamples(t *testing.T) {
	for _, o := range orders {
		for _, c := range []struct {
			at, n, v int
			want     api.Errno
		}{
			{0, 3, 8, api.ErrRange}, {0, 3, -1, api.ErrRange}, {0, 4, 0, api.ErrRange}, {1, 3, 0, api.ErrRange}, {-1, 0, 0, api.ErrRange}, {8, 0, 0, api.ErrRange},
			{7, 0, 0, api.OK}, {4, 2, 3, api.OK}, {0, 17, 0, api.ErrRange},
		} {
			e, s := rcenc.New(), made(t, 8)
			if errno := o.put(e, s, c.at, c.n, c.v); errno != c.want {
				t.Errorf("%s: Put at %d, %d bits, %d: error %d, want %d", o.name, c.at, c.n, c.v, errno, c.want)
			}
			if c.want != api.OK || c.n == 0 {
				wantRow(t, s, nil)
				wantSame(t, e, rcenc.New())
			}
		}
	}
}

// P9.1, P9.8: every edge of n, at and v with every other one, over rows of all kinds: ErrRange just where the chapter says, and 0 beside it.
func TestRefusedAtEveryEdge(t *testing.T) {
	met := map[api.Errno]int{}
	for _, o := range orders {
		for _, long := range someRows {
			e, s := rcenc.New(), made(t, long)
			for _, n := range someBits {
				for _, at := range placesOf(long, n) {
					for _, v := range valuesOf(n) {
						want := api.ErrRange
						if isThere(long, at, n) && v >= 0 && v < 1<<n {
							want = api.OK
						}
						met[want]++
						c, errno := o.cost(s, at, n, v)
						if errno != want || errno != api.OK && c != 0 {
							t.Errorf("%s: of %d: Cost at %d, %d bits, %d: %d, error %d; want %d", o.name, long, at, n, v, c, errno, want)
						}
						if errno := o.put(e, s, at, n, v); errno != want {
							t.Errorf("%s: of %d: Put at %d, %d bits, %d: error %d, want %d", o.name, long, at, n, v, errno, want)
						}
					}
				}
			}
		}
	}
	if met[api.OK] < 500 || met[api.ErrRange] < 500 {
		t.Errorf("met: %v", met)
	}
}

// P9.1, P9.8: the same of what reads.
func TestRefusedGetAtEveryEdge(t *testing.T) {
	met := map[api.Errno]int{}
	for _, o := range orders {
		for _, long := range someRows {
			d, s := begun(t, make([]byte, 10000)...), made(t, long)
			for _, n := range someBits {
				for _, at := range placesOf(long, n) {
					want := api.ErrRange
					if isThere(long, at, n) {
						want = api.OK
					}
					met[want]++
					if v, errno := o.get(d, s, at, n); v != 0 || errno != want {
						t.Errorf("%s: of %d: Get at %d, %d bits: %d, error %d; want %d", o.name, long, at, n, v, errno, want)
					}
				}
			}
		}
	}
	if met[api.OK] < 30 || met[api.ErrRange] < 500 {
		t.Errorf("met: %v", met)
	}
}

// P9.1: with ErrRange nothing is coded or read, and no probability moves, in the midst of a row of numbers too.
func TestRefusedLeavesAllAsItWas(t *testing.T) {
	for _, o := range orders {
		e, s := rcenc.New(), made(t, 20)
		for k := range 30 {
			put(t, o, e, s, k%5, 3, k%8)
		}
		b := e.Bytes()
		d, twin, read, again := begun(t, b...), begun(t, b...), made(t, 20), made(t, 20)
		for k := range 9 {
			wantGet(t, o, d, read, k%5, 3, k%8)
			wantGet(t, o, twin, again, k%5, 3, k%8)
		}
		was, row := e.Fork(), s.Fork()
		for _, n := range someBits {
			for _, at := range placesOf(20, n) {
				if !isThere(20, at, n) {
					noGet(t, o, d, read, at, n, api.ErrRange)
				}
				for _, v := range valuesOf(n) {
					if isThere(20, at, n) && v >= 0 && v < 1<<n {
						continue
					}
					if errno := o.put(e, s, at, n, v); errno != api.ErrRange {
						t.Errorf("%s: Put at %d, %d bits, %d: error %d", o.name, at, n, v, errno)
					}
					if c, errno := o.cost(s, at, n, v); c != 0 || errno != api.ErrRange {
						t.Errorf("%s: Cost at %d, %d bits, %d: %d, error %d", o.name, at, n, v, c, errno)
					}
				}
			}
		}
		wantSame(t, e, was)
		wantAlike(t, s, row)
		wantAlike(t, read, again)
		wantBoth(t, d, twin)
	}
}

// P9.1: a tree that is not there is told ahead of bytes that are not.
func TestRefusedAheadOfTheEnd(t *testing.T) {
	for _, o := range orders {
		d, s := begun(t, 0, 0, 0, 0, 0), made(t, 8)
		if v, errno := d.Direct(7); v != 0 || errno != api.OK {
			t.Fatalf("Direct: %d, error %d", v, errno)
		}
		noGet(t, o, d, s, 0, 3, api.ErrTruncated)
		noGet(t, o, d, s, 1, 3, api.ErrRange)
		noGet(t, o, d, s, 0, 4, api.ErrRange)
		noGet(t, o, d, s, -1, 0, api.ErrRange)
		noGet(t, o, d, s, 0, -1, api.ErrRange)
		noGet(t, o, d, made(t, 0), 0, 0, api.ErrRange)
		wantGet(t, o, d, s, 0, 0, 0)
		wantRow(t, s, nil)
	}
}

// P9.1: v is held against n in the order back too: a number that would fit with its bits the other way round does not.
func TestRefusedNumbersDoNotFitTurned(t *testing.T) {
	for _, o := range orders {
		for n := range 17 {
			e, s := rcenc.New(), made(t, 1<<n)
			for k := n; k < 63; k++ {
				for _, v := range []int{1 << k, 1<<k + 1<<n - 1, -1 << k, -1<<k + 1<<n - 1} {
					if v >= 0 && v < 1<<n {
						continue
					}
					if errno := o.put(e, s, 0, n, v); errno != api.ErrRange {
						t.Fatalf("%s: Put of %d bits, %d: error %d", o.name, n, v, errno)
					}
					if c, errno := o.cost(s, 0, n, v); c != 0 || errno != api.ErrRange {
						t.Fatalf("%s: Cost of %d bits, %d: %d, error %d", o.name, n, v, c, errno)
					}
				}
			}
			wantRow(t, s, nil)
			wantSame(t, e, rcenc.New())
		}
	}
}

// P9.1: more than 16 bits are refused though the row has room for such a tree, one of 16 there is not.
func TestRefusedDepthWithRoom(t *testing.T) {
	for _, o := range orders {
		for _, long := range []int{1 << 17, 1<<17 + 5, 1 << 18, 1 << 20} {
			e, d, s := rcenc.New(), begun(t, make([]byte, 100)...), made(t, long)
			for n := 17; n <= 20; n++ {
				for _, v := range []int{0, 1, 65535, 65536} {
					if errno := o.put(e, s, 0, n, v); errno != api.ErrRange {
						t.Errorf("%s: Put of %d bits, %d: error %d", o.name, n, v, errno)
					}
					if c, errno := o.cost(s, 0, n, v); c != 0 || errno != api.ErrRange {
						t.Errorf("%s: Cost of %d bits, %d: %d, error %d", o.name, n, v, c, errno)
					}
				}
				noGet(t, o, d, s, 0, n, api.ErrRange)
			}
			wantRow(t, s, nil)
			wantSame(t, e, rcenc.New())
			put(t, o, e, s, long-1<<16, 16, 65535)
			wantGet(t, o, d, s, 0, 16, 0)
		}
	}
}
