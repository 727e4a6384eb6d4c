package chunk_test

import (
	"math"
	"testing"

	"pith/api"
	"pith/chunk"
)

// wantDict: of a byte.
func wantDict(t *testing.T, b, want int, wantErr api.Errno) {
	t.Helper()
	if n, errno := chunk.ByteDict(b); n != want || errno != wantErr {
		t.Errorf("ByteDict(%d): %d, error %d; want %d, error %d", b, n, errno, want, wantErr)
	}
}

// wantDictByte: of a dictionary.
func wantDictByte(t *testing.T, n, want int, wantErr api.Errno) {
	t.Helper()
	if b, errno := chunk.DictByte(n); b != want || errno != wantErr {
		t.Errorf("DictByte(%d): %d, error %d; want %d, error %d", n, b, errno, want, wantErr)
	}
}

// dicts: all that a byte tells, by doubling and by halves more.
func dicts() []int {
	var all []int
	for n := 4096; n < 1<<32; n *= 2 {
		all = append(all, n, n+n/2)
	}
	return append(all, 1<<32-1)
}

// P17.5: the chapter's examples.
func TestDictExamples(t *testing.T) {
	wantDict(t, 0, 4096, api.OK)
	wantDict(t, 1, 6144, api.OK)
	wantDict(t, 2, 8192, api.OK)
	wantDict(t, 39, 3221225472, api.OK)
	wantDict(t, 40, 4294967295, api.OK)
	wantDict(t, 41, 0, api.ErrUnsupported)
	wantDict(t, -1, 0, api.ErrRange)
	wantDictByte(t, 0, 0, api.OK)
	wantDictByte(t, 4096, 0, api.OK)
	wantDictByte(t, 4097, 1, api.OK)
	wantDictByte(t, 67108864, 28, api.OK)
	wantDictByte(t, 3221225473, 40, api.OK)
	wantDictByte(t, 4294967296, 0, api.ErrRange)
}

// P17.5: ByteDict of every byte and of what is none.
func TestByteDictOfEachByte(t *testing.T) {
	for b, want := range dicts() {
		wantDict(t, b, want, api.OK)
	}
	for b := 41; b <= 255; b++ {
		wantDict(t, b, 0, api.ErrUnsupported)
	}
	for _, b := range []int{-1, 256, -2, -40, -41, 257, 1 << 31, 1 << 32, 1<<32 + 1, -1 << 32, math.MinInt, math.MinInt + 2, math.MaxInt} {
		wantDict(t, b, 0, api.ErrRange)
	}
}

// P17.5: DictByte of each dictionary that a byte tells, of one less and of one more.
func TestDictByteAtTheEdges(t *testing.T) {
	all := dicts()
	if len(all) != 41 {
		t.Fatalf("%d dictionaries", len(all))
	}
	for b, n := range all {
		wantDictByte(t, n-1, b, api.OK)
		wantDictByte(t, n, b, api.OK)
		if b < 40 {
			wantDictByte(t, n+1, b+1, api.OK)
		}
	}
}

// P17.5: DictByte of what is no dictionary's size, and of the least ones.
func TestDictByteOutside(t *testing.T) {
	for _, n := range []int{-1, -2, -4096, -1 << 32, math.MinInt, math.MinInt + 1, 1 << 32, 1<<32 + 1, 1 << 33, 1<<63 - 2, math.MaxInt} {
		wantDictByte(t, n, 0, api.ErrRange)
	}
	for _, n := range []int{0, 1, 2, 100, 4095} {
		wantDictByte(t, n, 0, api.OK)
	}
	wantDictByte(t, 4294967295, 40, api.OK)
	wantDictByte(t, 4294967294, 40, api.OK)
}

// P17.5: of ever so many sizes the byte is the least that tells enough.
func TestDictByteIsTheLeast(t *testing.T) {
	all := dicts()
	for n := 0; n <= api.MaxTold; n += 77777 {
		b, errno := chunk.DictByte(n)
		if errno != api.OK || b < 0 || b > 40 || all[b] < n || b > 0 && all[b-1] >= n {
			t.Fatalf("DictByte(%d): %d, error %d", n, b, errno)
		}
	}
}
