package head_test

import (
	"bytes"
	"math"
	"math/rand"
	"testing"

	"pith/api"
)

// P21.1: the chapter's examples.
func TestPutOfExamples(t *testing.T) {
	wantPut(t, plain(lzma(0)), 0, sealed(2, 0, 0x21, 1, 0, 0, 0, 0)...)
	wantPut(t, plain(apart(1), lzma(0)), 0, sealed(2, 1, 3, 1, 0, 0x21, 1, 0)...)
	wantPut(t, headOf(5, 300, lzma(0)), 0, sealed(2, 0xC0, 5, 0xAC, 2, 0x21, 1, 0)...)
	wantPut(t, plain(lzma(0)), 1, sealed(3, 0, 0x21, 1, 0, 0, 0, 0, 0, 0, 0, 0)...)
	wantNoPut(t, headOf(0, -1, lzma(0)), 0, api.ErrRange)
	wantNoPut(t, headOf(-2, -1, lzma(0)), 0, api.ErrRange)
	wantNoPut(t, plain(), 0, api.ErrConfig)
	wantNoPut(t, plain(lzma(0)), 254, api.ErrRange)
}

// P21.1: the sizes, at the edges of what may be told and of how many bytes they have.
func TestPutOfSizes(t *testing.T) {
	wantPut(t, headOf(1, -1, lzma(0)), 0, sealed(2, 64, 1, 0x21, 1, 0, 0, 0)...)
	wantPut(t, headOf(-1, 0, lzma(0)), 0, sealed(2, 128, 0, 0x21, 1, 0, 0, 0)...)
	wantPut(t, headOf(-1, 1, lzma(0)), 0, sealed(2, 128, 1, 0x21, 1, 0, 0, 0)...)
	wantPut(t, headOf(1, 0, lzma(0)), 0, sealed(2, 192, 1, 0, 0x21, 1, 0, 0)...)
	high := []byte{0xFF, 0xFF, 0xFF, 0xFF, 0xFF, 0xFF, 0xFF, 0xFF, 0x7F}
	wantPut(t, headOf(greatest, -1, lzma(0)), 0, sealed(append(append([]byte{4, 64}, high...), 0x21, 1, 0, 0, 0)...)...)
	wantPut(t, headOf(-1, greatest, lzma(0)), 0, sealed(append(append([]byte{4, 128}, high...), 0x21, 1, 0, 0, 0)...)...)
	for _, packed := range append(told(), -1) {
		for _, size := range append(told(), -1, 0) {
			for _, l := range chains() {
				wantPutByWords(t, headOf(packed, size, l...), 0)
			}
		}
	}
}

// wrongSizes: what is below what may be told.
var wrongSizes = []int{-2, -3, -64, -128, -1 << 31, -1 << 32, math.MinInt + 1, math.MinInt}

// P21.1: sizes that may not be told, each beside right ones and wrong ones.
func TestPutOfWrongSizes(t *testing.T) {
	for _, wrong := range append(wrongSizes, 0) {
		for _, size := range append(told(), -1, 0, -2) {
			wantNoPut(t, headOf(wrong, size, lzma(0)), 0, api.ErrRange)
		}
	}
	for _, wrong := range wrongSizes {
		for _, packed := range append(told(), -1, 0, -2) {
			wantNoPut(t, headOf(packed, wrong, lzma(0)), 0, api.ErrRange)
		}
	}
}

// P21.1: how many filters there are.
func TestPutOfCounts(t *testing.T) {
	wantNoPut(t, plain(), 0, api.ErrConfig)
	wantNoPut(t, plain([]api.Filter{}...), 0, api.ErrConfig)
	wantPut(t, plain(filter(5)), 0, sealed(1, 0, 5, 0)...)
	wantPut(t, plain(filter(5), filter(6)), 0, sealed(2, 1, 5, 0, 6, 0, 0, 0)...)
	wantPut(t, plain(filter(5), filter(6), filter(7)), 0, sealed(2, 2, 5, 0, 6, 0, 7, 0)...)
	wantPut(t, plain(filter(5), filter(6), filter(7), filter(8)), 0, sealed(3, 3, 5, 0, 6, 0, 7, 0, 8, 0, 0, 0)...)
	for _, n := range []int{5, 6, 7, 8, 9, 16, 257, 260} {
		l := make([]api.Filter, n)
		for i := range l {
			l[i] = lzma(0)
		}
		wantNoPut(t, plain(l...), 0, api.ErrConfig)
		wantNoPut(t, headOf(3, 4, l...), 1, api.ErrConfig)
	}
}

// P21.1: whether the filters are a chain that is read here is not asked, and one filter may be there more than once.
func TestPutOfAnyFilters(t *testing.T) {
	wantPut(t, plain(filter(300, 7, 8)), 0, sealed(2, 0, 0xAC, 2, 2, 7, 8, 0)...)
	wantPut(t, plain(lzma(41)), 0, sealed(2, 0, 0x21, 1, 41, 0, 0, 0)...)
	wantPut(t, plain(filter(0)), 0, sealed(1, 0, 0, 0)...)
	for _, l := range append(noChains(), chains()...) {
		for _, pad := range []int{0, 1, 2} {
			wantPutByWords(t, plain(l...), pad)
			wantPutByWords(t, headOf(128, 16384, l...), pad)
		}
	}
}

// P21.1: Bytes is not looked at.
func TestPutLooksAtNoBytes(t *testing.T) {
	for _, n := range []int{math.MinInt, -1, 0, 1, 12, 13, 1024, 1028, math.MaxInt} {
		wantPut(t, sized(plain(lzma(0)), n), 0, sealed(2, 0, 0x21, 1, 0, 0, 0, 0)...)
		wantNoPut(t, sized(plain(), n), 0, api.ErrConfig)
	}
}

// tooGreat: what no filter's number is.
var tooGreat = []uint64{greatest + 1, greatest + 2, greatest + 34, 1<<63 + 1<<62, 1<<64 - 2, 1<<64 - 1}

// P21.1: a filter that is refused, at each place, beside right ones; two of them too.
func TestPutOfRefusedFilters(t *testing.T) {
	for _, id := range tooGreat {
		for n := 1; n <= 4; n++ {
			for at := range n {
				l := []api.Filter{lzma(0), apart(1), filter(4), many(200)}[:n]
				l[at] = filter(id, 1, 2)
				wantNoPut(t, plain(l...), 0, api.ErrRange)
				wantNoPut(t, headOf(3, 4, l...), 5, api.ErrRange)
				l[n-1] = filter(id)
				wantNoPut(t, plain(l...), 0, api.ErrRange)
			}
		}
	}
}

// P21.1: which of several faults is answered: that of the sizes and of pad ahead of that of how many filters there are, and that ahead of a filter's and of the length.
func TestPutOfSeveralFaults(t *testing.T) {
	wide := filter(1<<63, 1)
	for _, l := range [][]api.Filter{{}, {lzma(0), lzma(0), lzma(0), lzma(0), lzma(0)}, {wide, wide, wide, wide, wide}, {many(900), many(900), many(900), many(900), wide}} {
		for _, wrong := range []api.Head{headOf(0, -1, l...), headOf(-2, 5, l...), headOf(-1, -2, l...), headOf(0, -2, l...)} {
			wantNoPut(t, wrong, 0, api.ErrRange)
			wantNoPut(t, wrong, -1, api.ErrRange)
			wantNoPut(t, wrong, 254, api.ErrRange)
		}
		wantNoPut(t, plain(l...), -1, api.ErrRange)
		wantNoPut(t, plain(l...), math.MinInt, api.ErrRange)
		wantNoPut(t, plain(l...), 0, api.ErrConfig)
		wantNoPut(t, headOf(5, 5, l...), 254, api.ErrConfig)
		wantNoPut(t, headOf(5, 5, l...), math.MaxInt, api.ErrConfig)
	}
	wantNoPut(t, plain(many(2000), wide), 0, api.ErrRange)
	wantNoPut(t, plain(wide, many(2000)), math.MaxInt, api.ErrRange)
}

// P21.1: as few zeros as there can be: rooms of every length, with none, one, two and three zeros, up to the greatest header, and beyond it.
func TestPutOfEveryLength(t *testing.T) {
	zeros := map[int]int{}
	for n := range 1040 {
		h := plain(many(n))
		want, errno := putByWords(h, 0)
		wantPutByWords(t, h, 0)
		if errno == api.OK {
			zeros[len(want)-6-len(bytesOf(many(n)))]++
		}
	}
	if len(zeros) != 4 || min(zeros[0], zeros[1], zeros[2], zeros[3]) < 200 {
		t.Errorf("how many zeros were laid, and how often: %v", zeros)
	}
	// 1018 bytes of a room: one filter's number, how many properties (two bytes), and these.
	if b := laid(t, plain(many(1015)), 0); len(b) != 1024 || b[0] != 255 || b[1019] == 0 {
		t.Errorf("the greatest header: %s", shown(b))
	}
	wantNoPut(t, plain(many(1016)), 0, api.ErrRange)
	wantNoPut(t, plain(many(1015)), 1, api.ErrRange)
	wantNoPut(t, plain(many(1<<20)), 0, api.ErrRange)
	wantNoPut(t, plain(many(500), many(500), many(4), many(500)), 0, api.ErrRange)
	// One byte of a size more.
	wantPutByWords(t, headOf(127, -1, many(1014)), 0)
	wantNoPut(t, headOf(128, -1, many(1014)), 0, api.ErrRange)
	wantPutByWords(t, headOf(-1, 127, many(1014)), 0)
	wantNoPut(t, headOf(-1, 128, many(1014)), 0, api.ErrRange)
}

// P21.1: pad words more: none, one, all that there can be, and one more; and so many that their bytes would wrap.
func TestPutOfPads(t *testing.T) {
	for _, l := range append(chains(), []api.Filter{many(3)}, []api.Filter{many(600)}, []api.Filter{many(1011)}, []api.Filter{many(1015)}) {
		for _, packed := range []int{-1, 1, 1 << 40} {
			h := headOf(packed, -1, l...)
			least, errno := putByWords(h, 0)
			if errno != api.OK {
				continue
			}
			most := (1024 - len(least)) / 4
			for pad := range most + 1 {
				wantPutByWords(t, h, pad)
			}
			if b := laid(t, h, most); len(b) != 1024 || b[0] != 255 {
				t.Errorf("the greatest header: %s", shown(b))
			}
			for _, pad := range []int{most + 1, most + 2, most + 3, most + 256, most + 257, 1000, 1024, 65536} {
				wantNoPut(t, h, pad, api.ErrRange)
			}
			for _, size := range []int{1 << 16, 1 << 24, 1 << 30, 1 << 32, 1 << 61, 1 << 62, 3 << 61, math.MaxInt - 255, math.MaxInt / 2, math.MaxInt} {
				for _, pad := range []int{size - 3, size - 2, size - 1, size} {
					wantNoPut(t, h, pad, api.ErrRange)
				}
			}
			for _, pad := range []int{-1, -2, -3, -254, -256, -1 << 32, -1 << 62, -1<<62 + 1, math.MinInt, math.MinInt + 1} {
				wantNoPut(t, h, pad, api.ErrRange)
			}
		}
	}
}

// P21.1: by chance, whatever is right or wrong.
func TestPutByTheWords(t *testing.T) {
	r := rand.New(rand.NewSource(211))
	met := map[api.Errno]int{}
	pick := func(of []int) int { return of[r.Intn(len(of))] }
	for range 20000 {
		h := headOf(pick([]int{-2, -1, -1, -1, 0, 1, 5, 127, 128, 1 << 40, greatest}), pick([]int{-2, -1, -1, 0, 0, 1, 128, 1 << 50, greatest}))
		for range r.Intn(6) {
			id := []uint64{0, 3, 33, 33, 127, 128, 1 << 40, greatest, greatest + 1}[r.Intn(9)]
			h.Filters = append(h.Filters, filter(id, noise(r.Int63(), pick([]int{0, 1, 1, 2, 3, 127, 128, 300, 900}))...))
		}
		pad := pick([]int{-1, 0, 0, 1, 2, 60, 100, 200, 250, 253, 254})
		_, errno := putByWords(h, pad)
		met[errno]++
		wantPutByWords(t, h, pad)
	}
	if len(met) != 3 || min(met[api.OK], met[api.ErrRange], met[api.ErrConfig]) < 1000 {
		t.Errorf("what was met: %v", met)
	}
}

// P21.1: unlike headers have unlike bytes.
func TestHeadersAreApart(t *testing.T) {
	var all [][]byte
	for _, packed := range []int{-1, 1, 128} {
		for _, size := range []int{-1, 0, 1, 128} {
			for _, l := range append(noChains(), chains()...) {
				for pad := range 3 {
					all = append(all, laid(t, headOf(packed, size, l...), pad))
				}
			}
		}
	}
	for i, a := range all {
		for k, b := range all {
			if i != k && bytes.HasPrefix(a, b) {
				t.Errorf("%s begins as %s", shown(a), shown(b))
			}
		}
	}
}
