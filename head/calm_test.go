package head_test

import (
	"bytes"
	"math"
	"math/rand"
	"runtime"
	"slices"
	"sync"
	"testing"

	"pith/api"
	"pith/head"
)

// extremes: of every int that is handed in.
var extremes = []int{math.MinInt, math.MinInt + 1, -1 << 32, -257, -2, -1, 0, 1, 2, 127, 128, 252, 253, 254, 255, 256, 1 << 32, 1 << 61, 1 << 62, math.MaxInt - 1, math.MaxInt}

// P21.5: every call of Put ends, and none panics, at all edges.
func TestPutEnds(t *testing.T) {
	for _, packed := range extremes {
		for _, size := range extremes {
			for _, pad := range extremes {
				for _, l := range [][]api.Filter{nil, {lzma(0)}, {{}}, {{ID: 1 << 63}}, {many(1000)}, {{}, {}, {}, {}, {}}} {
					wantPutByWords(t, headOf(packed, size, l...), pad)
				}
			}
		}
	}
}

// P21.5: every call of Get ends, and none panics: bytes by chance, with any sum, the flags and the room of each length.
func TestGetEnds(t *testing.T) {
	r := rand.New(rand.NewSource(216))
	for n := range 1030 {
		b := noise(int64(n), n)
		wantGetByWords(t, b)
		for _, first := range []int{0, n/4 - 1, n / 4, 255} {
			if first >= 0 && first < 256 && n > 0 {
				b[0] = byte(first)
				wantGetByWords(t, b)
			}
		}
		if n >= 2 && n%4 == 2 && n <= 1018 {
			for _, flags := range []byte{0, 1, 2, 3, 64, 128, 195, 0xFF, byte(r.Intn(256))} {
				wantGetByWords(t, headed(flags, b[:n]...))
				wantGetByWords(t, headed(flags, make([]byte, n)...))
				wantGetByWords(t, headed(flags, bytes.Repeat([]byte{0xFF}, n)...))
				wantGetByWords(t, headed(flags, bytes.Repeat([]byte{1}, n)...))
			}
		}
	}
}

// headWithRoom: h, its filters with room behind them and behind each one's properties; and a copy of all that lies there.
func headWithRoom(h api.Head) (api.Head, []api.Filter) {
	var list, was []api.Filter
	for _, f := range append(slices.Clone(h.Filters), lzma(0), apart(5)) {
		list = append(list, api.Filter{ID: f.ID, Props: withRoom(f.Props)})
	}
	for _, f := range list {
		was = append(was, api.Filter{ID: f.ID, Props: bytes.Clone(f.Props[:cap(f.Props)])})
	}
	own := h
	own.Filters = list[:len(h.Filters)]
	return own, was
}

// wantUnchanged: the list, its room, and the rooms in it.
func wantUnchanged(t *testing.T, what string, list, was []api.Filter) {
	t.Helper()
	for i, f := range list[:len(was)] {
		if f.ID != was[i].ID || !bytes.Equal(f.Props[:cap(f.Props)], was[i].Props) {
			t.Errorf("%s: the filter %d became another", what, i)
		}
	}
}

// P21.5: Put changes nothing of a header, of its filters, of their properties, nor of the room behind each; its answer hangs on nothing later.
func TestPutTakesNothing(t *testing.T) {
	for _, l := range append(append(chains(), noChains()...), nil, []api.Filter{many(300), many(5)}, []api.Filter{many(1200)}, []api.Filter{{ID: 1 << 63, Props: []byte{1}}}) {
		for _, given := range []api.Head{plain(l...), headOf(5, 300, l...), headOf(0, 1, l...)} {
			for _, pad := range []int{-1, 0, 3, 254} {
				h, was := headWithRoom(given)
				one, errno := head.Put(h, pad)
				other, _ := head.Put(h, pad)
				wantUnchanged(t, "Put", h.Filters[:len(l)], was)
				want, e := putByWords(given, pad)
				if !bytes.Equal(one, want) || errno != e {
					t.Fatalf("Put(%s, %d): %s, error %d", shownHead(given), pad, shown(one), errno)
				}
				spoil(one)
				wantUnchanged(t, "Put", h.Filters[:len(l)], was)
				if !bytes.Equal(other, want) {
					t.Fatalf("Put(%s, %d): two answers share memory", shownHead(given), pad)
				}
				for i := range was {
					spoil(h.Filters[:len(was)][i].Props)
				}
				if !bytes.Equal(other, want) {
					t.Fatalf("Put(%s, %d): the answer hangs on the filters later", shownHead(given), pad)
				}
				wantPutByWords(t, given, pad)
			}
		}
	}
}

// P21.5: Get changes nothing of the bytes, nor of the room behind them, whatever it answers.
func TestGetChangesNothing(t *testing.T) {
	for _, b := range [][]byte{
		nil, {0}, {2}, laid(t, plain(lzma(0)), 0), laid(t, headOf(5, 300, apart(2), lzma(7)), 2), laid(t, plain(many(200)), 0), laid(t, plain(lzma(0)), 0)[:11],
		headed(4, 0x21, 1, 0, 0, 0, 0), headed(64, 0, 0), headed(64, 0x80, 0x80), headed(0, 0x21, 1, 0, 0, 0, 9), headed(0, 0x21, 9, 0, 0, 0, 9), noise(8, 1024),
	} {
		given := withRoom(b)
		was := bytes.Clone(given[:cap(given)])
		wantGetByWords(t, given)
		if !bytes.Equal(given[:cap(given)], was) {
			t.Errorf("Get(%s) has changed it", shown(b))
		}
	}
}

// P21.5: Get's filters and their properties are new memory each time, share none with one another, and hang on the bytes no more.
func TestGetIsNewMemory(t *testing.T) {
	for _, l := range chains() {
		want := headOf(5, 300, l...)
		b := laid(t, want, 1)
		want = sized(want, len(b))
		was := bytes.Clone(b)
		for i := range l {
			one, _ := head.Get(b)
			other, _ := head.Get(b)
			spoil(one.Filters[i].Props)
			for k, f := range one.Filters {
				if k != i && !bytes.Equal(f.Props, l[k].Props) {
					t.Errorf("%s: the filter %d shares memory with the filter %d", shownHead(want), k, i)
				}
			}
			spoilFilters(one.Filters)
			if !same(other, want) || !bytes.Equal(b, was) {
				t.Errorf("%s: an answer shares memory", shownHead(want))
			}
			wantGet(t, b, want)
			spoil(b)
			if !same(other, want) {
				t.Errorf("%s: an answer hangs on the bytes later", shownHead(want))
			}
			copy(b, was)
		}
	}
}

// takenBy: how much memory a function takes in all.
func takenBy(f func()) uint64 {
	var before, behind runtime.MemStats
	runtime.ReadMemStats(&before)
	f()
	runtime.ReadMemStats(&behind)
	return behind.TotalAlloc - before.TotalAlloc
}

// P21.5, W7: memory is taken for the header's bytes, not for what numbers tell, nor for what stands behind it.
func TestMemoryIsTakenAsBytesAreThere(t *testing.T) {
	long := make([]byte, 16<<20)
	var all [][]byte
	for _, b := range [][]byte{laid(t, plain(lzma(0)), 0), laid(t, plain(many(900)), 0), filled(0, append([]byte{0x21}, sevens(1<<40)...)...), filled(64, 0x80, 0x80, 0x80, 0x80, 0x80, 1), {0}, sealed(1, 0, 5, 0)[:7]} {
		all = append(all, append(bytes.Clone(b), long...))
	}
	if taken := takenBy(func() {
		for _, b := range all {
			head.Get(b)
		}
	}); taken > 1<<20 {
		t.Errorf("Get takes %d bytes", taken)
	}
	if taken := takenBy(func() {
		for _, pad := range []int{0, 253, 254, 1 << 30, 1 << 40, math.MaxInt} {
			head.Put(headOf(greatest, greatest, lzma(0)), pad)
		}
	}); taken > 1<<20 {
		t.Errorf("Put takes %d bytes", taken)
	}
}

// W2: many at once, and one behind the other after whatever came before, each answers what it answers alone.
func TestManyAtOnce(t *testing.T) {
	h := headOf(5, 300, apart(2), lzma(7))
	b, _ := putByWords(h, 2)
	var group sync.WaitGroup
	for range 8 {
		group.Go(func() {
			for range 200 {
				wantPut(t, h, 2, b...)
				wantNoPut(t, h, 300, api.ErrRange)
				wantNoPut(t, plain(), 0, api.ErrConfig)
				wantGet(t, b, sized(h, len(b)))
				wantNoGet(t, b[:9], api.ErrTruncated)
				wantNoGet(t, headed(64, 0x80, 0x80), api.ErrFormat)
				wantNoGet(t, headed(0, 4, 0, 0, 0, 0, 9), api.ErrUnsupported)
			}
		})
	}
	group.Wait()
}
