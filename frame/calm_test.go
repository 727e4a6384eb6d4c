package frame_test

import (
	"bytes"
	"math"
	"math/rand"
	"runtime"
	"sync"
	"testing"

	"pith/api"
	"pith/frame"
)

// extremes: of every int that is handed in.
var extremes = []int{math.MinInt, math.MinInt + 1, -1 << 34, -1 << 32, -5, -4, -1, 0, 1, 4, 5, 8, 10, 127, 256, 260, 1 << 32, 1 << 34, 1<<34 + 4, 1 << 62, math.MaxInt - 3, math.MaxInt - 1, math.MaxInt}

// P24.6: every call of Header and Footer ends, and none panics.
func TestLayingEnds(t *testing.T) {
	for _, kind := range extremes {
		for _, index := range extremes {
			wantLaidByWords(t, kind, index)
		}
	}
}

// P24.6: every call of ReadHeader and ReadFooter ends, and none panics: bytes by chance, and the same byte again and again.
func TestReadingEnds(t *testing.T) {
	for n := range 300 {
		b := noise(int64(n), n%40)
		wantReadByWords(t, b)
		wantReadByWords(t, append([]byte{0xFD, '7', 'z', 'X', 'Z', 0}, b...))
		wantReadByWords(t, append(b[:min(10, len(b)):min(10, len(b))], 'Y', 'Z'))
	}
	for x := range 256 {
		for n := range 30 {
			wantReadByWords(t, bytes.Repeat([]byte{byte(x)}, n))
		}
	}
}

// P24.6, W4: nil and empty bytes are the same.
func TestNilAndEmptyBytes(t *testing.T) {
	for _, b := range [][]byte{nil, {}, make([]byte, 0, 100), headerOf(0, 4)[:0], footerOf(1, 0, 4)[:0]} {
		wantNoReadHeader(t, b, api.ErrTruncated)
		wantNoReadFooter(t, b, api.ErrTruncated)
	}
}

// P24.6: reading changes nothing of the bytes, nor of the room behind them, whatever is answered.
func TestReadingChangesNothing(t *testing.T) {
	r := rand.New(rand.NewSource(246))
	all := [][]byte{nil, make([]byte, 12), headerOf(0, 2), headerOf(1, 4), footerOf(7, 0, 2), footerOf(7, 1, 4), noise(3, 50)}
	for _, kind := range kinds {
		header, footer := headerOf(0, byte(kind)), footerOf(7, 0, byte(kind))
		all = append(all, header, footer, header[:11], footer[:11], append(bytes.Clone(header), 1, 2, 3), append(bytes.Clone(footer), 1, 2, 3))
		for range 50 {
			one, other := bytes.Clone(header), bytes.Clone(footer)
			one[r.Intn(12)] ^= 1 << r.Intn(8)
			other[r.Intn(12)] ^= 1 << r.Intn(8)
			all = append(all, one, other)
		}
	}
	for _, b := range all {
		given := withRoom(b, 0, 0x80, 0xFF, 5, 0, 0, 0, 0, 0x59, 0x5A, 1, 2, 3)
		was := bytes.Clone(given[:cap(given)])
		wantReadByWords(t, given)
		if !bytes.Equal(given[:cap(given)], was) {
			t.Errorf("reading %s has changed it", shown(b))
		}
	}
}

// P24.6: answers are new memory each time; no later answer shows what became of one, nor is it read otherwise.
func TestAnswersAreNewMemory(t *testing.T) {
	for range 2 {
		for _, kind := range kinds {
			one, two := laidHeader(t, kind), laidHeader(t, kind)
			spoil(one, 0x55)
			if !bytes.Equal(two, headerOf(0, byte(kind))) {
				t.Errorf("Header(%d): answers share memory", kind)
			}
			three, four := laidFooter(t, kind, 8), laidFooter(t, kind, 8)
			spoil(three, 0x55)
			if !bytes.Equal(four, footerOf(1, 0, byte(kind))) {
				t.Errorf("Footer(%d, 8): answers share memory", kind)
			}
			spoil(two, 0)
			spoil(four, 0xFF)
			wantHeader(t, kind, headerOf(0, byte(kind))...)
			wantFooter(t, kind, 8, footerOf(1, 0, byte(kind))...)
			wantReadHeader(t, headerOf(0, byte(kind)), kind, api.OK)
			wantReadFooter(t, footerOf(1, 0, byte(kind)), kind, 8, api.OK)
		}
	}
}

// P24.6: what was read hangs on the bytes no more, and the same bytes are read anew.
func TestNothingIsKept(t *testing.T) {
	b := headerOf(0, 4)
	wantReadHeader(t, b, 4, api.OK)
	copy(b, headerOf(0, 10))
	wantReadHeader(t, b, 10, api.OK)
	spoil(b, 0)
	wantNoReadHeader(t, b, api.ErrFormat)
	copy(b, footerOf(9, 0, 1))
	wantReadFooter(t, b, 1, 40, api.OK)
	copy(b, footerOf(8, 0, 4))
	wantReadFooter(t, b, 4, 36, api.OK)
	spoil(b, 0)
	wantNoReadFooter(t, b, api.ErrFormat)
}

// takenBy: how much memory a function takes in all.
func takenBy(f func()) uint64 {
	var before, behind runtime.MemStats
	runtime.ReadMemStats(&before)
	f()
	runtime.ReadMemStats(&behind)
	return behind.TotalAlloc - before.TotalAlloc
}

// P24.2, P24.3, W7: no memory is taken for what stands behind the twelve bytes, nor for an index of the size that is told.
func TestMemoryIsTakenForTwelveBytes(t *testing.T) {
	long := make([]byte, 16<<20)
	var all [][]byte
	for _, b := range [][]byte{headerOf(0, 4), headerOf(0, 2), footerOf(1, 0, 4), footerOf(1<<32-1, 0, 4), footerOf(1, 0, 2), make([]byte, 12)} {
		all = append(all, append(bytes.Clone(b), long...))
	}
	if taken := takenBy(func() {
		for _, b := range all {
			frame.ReadHeader(b)
			frame.ReadFooter(b)
		}
		frame.Footer(4, mostIndex)
		frame.Footer(4, math.MaxInt)
	}); taken > 1<<16 {
		t.Errorf("reading takes %d bytes", taken)
	}
}

// W2: many at once, and one behind the other after whatever came before, each answers what it answers alone.
func TestManyAtOnce(t *testing.T) {
	var group sync.WaitGroup
	for i := range 8 {
		kind := kinds[i%4]
		group.Go(func() {
			header, footer := headerOf(0, byte(kind)), footerOf(uint32(i), 0, byte(kind))
			for range 200 {
				wantHeader(t, kind, header...)
				wantNoHeader(t, -1)
				wantFooter(t, kind, 4*i+4, footer...)
				wantNoFooter(t, kind, 7, api.ErrRange)
				wantNoFooter(t, 2, 7, api.ErrConfig)
				wantReadHeader(t, header, kind, api.OK)
				wantNoReadHeader(t, header[:11], api.ErrTruncated)
				wantNoReadHeader(t, footer, api.ErrFormat)
				wantReadFooter(t, footer, kind, 4*i+4, api.OK)
				wantNoReadFooter(t, footer[:11], api.ErrTruncated)
				wantNoReadFooter(t, header, api.ErrFormat)
			}
		})
	}
	group.Wait()
}
