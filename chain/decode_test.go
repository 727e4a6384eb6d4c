package chain_test

import (
	"bytes"
	"math"
	"math/rand"
	"testing"

	"pith/api"
	"pith/lzma2"
)

// abc: a row that is told byte by byte: a raw chunk and the end.
var abc = []byte{1, 0, 2, 'a', 'b', 'c', 0}

// sums: x[i] = y[i] + x[i - d], modulo 256, by the words of chapter 19; without a distance the bytes themselves.
func sums(y []byte, d int) []byte {
	x := bytes.Clone(y)
	for i := d; d > 0 && i < len(x); i++ {
		x[i] = y[i] + x[i-d]
	}
	return x
}

// wantDecodedByWords: Decode, sentence by sentence of P20.7.
func wantDecodedByWords(t *testing.T, b []byte, mem int, s sizes, l ...api.Filter) api.Errno {
	t.Helper()
	dist, dict, errno := readByWords(l)
	if errno == api.OK && dict > mem {
		errno = api.ErrMemLimit
	}
	if errno != api.OK {
		wantFault(t, b, mem, s, errno, 0, l...)
		return errno
	}
	data, n, errno := lzma2.Decode(b, dict, s.packed, s.plain)
	if errno != api.OK {
		wantFault(t, b, mem, s, errno, n, l...)
		return errno
	}
	wantData(t, b, mem, s, sums(data, dist), n, l...)
	return api.OK
}

// P20.7: the chapter's examples, and rows that are told byte by byte.
func TestDecodeOfExamples(t *testing.T) {
	wantFault(t, []byte{0}, 4095, untold, api.ErrMemLimit, 0, lzma(0))
	wantData(t, []byte{0}, 4096, untold, nil, 1, lzma(0))
	wantData(t, []byte{0}, 4096, untold, nil, 1, apart(1), lzma(0))
	wantData(t, abc, 4096, untold, []byte("abc"), 7, lzma(0))
	wantData(t, []byte{1, 0, 2, 'a', 1, 1, 0}, 4096, untold, []byte("abc"), 7, apart(1), lzma(0))
	wantData(t, []byte{1, 0, 2, 'a', 'b', 2, 0}, 4096, untold, []byte("abc"), 7, apart(2), lzma(0))
	wantData(t, []byte{1, 0, 2, 'c', 255, 255, 0}, 4096, untold, []byte("cba"), 7, apart(1), lzma(0))
	wantData(t, abc, 4096, untold, []byte("abc"), 7, apart(3), lzma(0))
	wantData(t, abc, 4096, untold, []byte("abc"), 7, apart(256), lzma(0))
}

// P20.7: the differences go on from one chunk to the next, also where the dictionary is begun anew.
func TestDecodeSumsOverChunks(t *testing.T) {
	row := []byte{1, 0, 1, 'a', 1, 2, 0, 1, 1, 1, 1, 0, 0, 1, 2, 0, 0, 1, 0}
	wantData(t, row, 4096, untold, []byte("abcdef"), len(row), apart(1), lzma(0))
	wantData(t, row, 4096, untold, []byte{'a', 1, 'b', 2, 'c', 3}, len(row), apart(2), lzma(0))
}

// P20.7: limits one below, at and above the dictionary that is told, of each byte that tells one, and limits that are none.
func TestDecodeByTheLimit(t *testing.T) {
	for b, dict := range dicts() {
		for _, l := range [][]api.Filter{{lzma(byte(b))}, {apart(200), lzma(byte(b))}} {
			for _, mem := range []int{dict, dict + 1, dict + 4096, math.MaxInt} {
				wantData(t, abc, mem, untold, []byte("abc"), 7, l...)
			}
			for _, mem := range []int{dict - 1, dict - 4096, 1, 0, -1, -dict, -1 << 32, math.MinInt} {
				wantFault(t, abc, mem, untold, api.ErrMemLimit, 0, l...)
			}
		}
	}
}

// P20.7: what comes first: the chain, the limit, the row's own errors, at whatever else is wrong.
func TestDecodeOrder(t *testing.T) {
	for _, s := range []sizes{untold, {-2, -1}, {-1, -2}, {0, 0}, {math.MinInt, math.MaxInt}} {
		for _, b := range [][]byte{nil, {3}, abc, abc[:4]} {
			for _, l := range [][]api.Filter{nil, {lzma(41)}, {apart(1)}, {apart(1), lzma(41)}, {filter(4), lzma(0)}} {
				for _, mem := range []int{math.MinInt, -1, 0, 4095, 4096, math.MaxInt} {
					wantFault(t, b, mem, s, api.ErrUnsupported, 0, l...)
				}
			}
			for _, mem := range []int{math.MinInt, -1, 0, 4096, 6143} {
				wantFault(t, b, mem, s, api.ErrMemLimit, 0, lzma(1))
				wantFault(t, b, mem, s, api.ErrMemLimit, 0, apart(9), lzma(1))
			}
		}
	}
	for _, s := range []sizes{{-2, -1}, {-1, -2}, {-2, 3}, {7, -2}, {math.MinInt, -1}, {-1, math.MinInt}} {
		for _, b := range [][]byte{nil, {3}, abc} {
			wantFault(t, b, 4096, s, api.ErrRange, 0, lzma(0))
			wantFault(t, b, 4096, s, api.ErrRange, 0, apart(1), lzma(0))
		}
	}
}

// P20.7: told sizes that fit, that are off, and none, of a row with bytes behind it.
func TestDecodeByToldSizes(t *testing.T) {
	for _, l := range [][]api.Filter{{lzma(0)}, {apart(256), lzma(0)}} {
		for _, b := range [][]byte{abc, append(bytes.Clone(abc), 0, 1, 2)} {
			for _, s := range []sizes{untold, {7, -1}, {-1, 3}, {7, 3}} {
				wantData(t, b, 4096, s, []byte("abc"), 7, l...)
			}
			// The end is at 6; the chunk at 0 goes beyond 5 packed bytes and beyond 2 plain ones; with 6 no byte is left for the end.
			for at, wrong := range map[int][]sizes{
				0: {{5, -1}, {0, -1}, {-1, 2}, {-1, 0}, {7, 2}, {5, 3}},
				6: {{6, -1}, {8, -1}, {-1, 4}, {7, 4}, {8, 3}, {6, 3}, {math.MaxInt, -1}, {-1, math.MaxInt}},
			} {
				for _, s := range wrong {
					wantFault(t, b, 4096, s, api.ErrFormat, at, l...)
				}
			}
		}
	}
}

// P20.7: rows that are cut: each beginning, with the place of the part that is not there whole.
func TestDecodeOfCutRows(t *testing.T) {
	for _, l := range [][]api.Filter{{lzma(0)}, {apart(256), lzma(0)}} {
		for n, at := range []int{0, 0, 0, 3, 3, 3, 6} {
			wantFault(t, abc[:n], 4096, untold, api.ErrTruncated, at, l...)
			wantFault(t, abc[:n], 4096, sizes{7, 3}, api.ErrTruncated, at, l...)
		}
		for _, data := range [][]byte{text(400), slope(400), noise(1, 400)} {
			c := usual
			b := encoded(t, data, c)
			for n := range b {
				if wantDecodedByWords(t, b[:n], 4096, untold, l...) != api.ErrTruncated {
					t.Fatalf("%d of %d bytes are a row", n, len(b))
				}
			}
		}
	}
}

// P20.7: rows that end early, and what is no row.
func TestDecodeOfEarlyEnds(t *testing.T) {
	for _, l := range [][]api.Filter{{lzma(0)}, {apart(1), lzma(0)}} {
		wantData(t, append([]byte{0}, abc...), 4096, untold, nil, 1, l...)
		wantFault(t, append([]byte{0}, abc...), 4096, sizes{8, -1}, api.ErrFormat, 0, l...)
		wantFault(t, append([]byte{0}, abc...), 4096, sizes{-1, 3}, api.ErrFormat, 0, l...)
		wantFault(t, []byte{3}, 4096, untold, api.ErrFormat, 0, l...)
		wantFault(t, []byte{2, 0, 0, 'a', 0}, 4096, untold, api.ErrFormat, 0, l...)
		wantFault(t, append(bytes.Clone(abc[:6]), 0x80), 4096, untold, api.ErrFormat, 6, l...)
		wantFault(t, append(bytes.Clone(abc[:6]), 0xA0, 0), 4096, untold, api.ErrFormat, 6, l...)
		wantFault(t, nil, 4096, sizes{0, 0}, api.ErrFormat, 0, l...)
		wantFault(t, nil, 4096, untold, api.ErrTruncated, 0, l...)
	}
}

// P20.7: the dictionary of the row is the one that is told, not the limit.
func TestDecodeByTheDictionary(t *testing.T) {
	lit := api.Symbol{Kind: api.SymLit, Byte: 'x'}
	for b := range 5 {
		dict := dicts()[b]
		for _, back := range []int{dict, dict + 1} {
			parts := []api.Part{{Kind: api.ChunkFirst, Raw: noise(int64(b), 20000)}, {Kind: api.ChunkProps, Symbols: []api.Symbol{lit, {Kind: api.SymMatch, Len: 9, Dist: back}}}}
			row, errno := lzma2.Build(dict+1, parts...)
			if errno != api.OK {
				t.Fatalf("Build: error %d", errno)
			}
			plain := append(noise(int64(b), 20000), 'x')
			for range 9 {
				plain = append(plain, plain[len(plain)-back])
			}
			for _, dist := range []int{0, 3} {
				l := []api.Filter{lzma(byte(b))}
				if dist > 0 {
					l = append([]api.Filter{apart(dist)}, l...)
				}
				if back > dict {
					wantFault(t, row, math.MaxInt, untold, api.ErrFormat, 3+20000+6, l...)
				} else {
					wantData(t, row, dict, untold, sums(plain, dist), len(row), l...)
				}
				l[len(l)-1] = lzma(byte(b + 1))
				wantData(t, row, math.MaxInt, untold, sums(plain, dist), len(row), l...)
			}
		}
	}
}

// P20.7: any bytes through any chain, with any limit, with sizes told by chance.
func TestDecodeByTheWords(t *testing.T) {
	r := rand.New(rand.NewSource(207))
	rows := [][]byte{{0}, abc}
	for i, data := range [][]byte{text(300), slope(300), noise(2, 50), nil} {
		c := usual
		c.Delta, c.Mode = i%3, modes[i%3]
		rows = append(rows, encoded(t, data, c))
	}
	chains := [][]api.Filter{nil, {lzma(0)}, {lzma(40)}, {lzma(41)}, {apart(1), lzma(0)}, {apart(256), lzma(3)}, {apart(2), apart(2), lzma(0)}, {lzma(0), lzma(0)}}
	met := map[api.Errno]int{}
	for range 6000 {
		b := bytes.Clone(rows[r.Intn(len(rows))])
		for range r.Intn(3) {
			b[r.Intn(len(b))] ^= 1 << r.Intn(8)
		}
		if r.Intn(4) == 0 {
			b = b[:r.Intn(len(b)+1)]
		}
		b = append(b, noise(r.Int63(), r.Intn(4))...)
		s := untold
		if r.Intn(4) == 0 {
			s.packed = len(b) - r.Intn(4)
		}
		if r.Intn(4) == 0 {
			s.plain = r.Intn(302) - 2
		}
		mem := []int{-1, 4095, 4096, 11264, 12288, 1<<32 - 2, 1<<32 - 1, math.MaxInt}[r.Intn(8)]
		met[wantDecodedByWords(t, b, mem, s, chains[r.Intn(len(chains))]...)]++
	}
	for _, errno := range []api.Errno{api.OK, api.ErrTruncated, api.ErrFormat, api.ErrUnsupported, api.ErrMemLimit, api.ErrRange} {
		if met[errno] == 0 {
			t.Errorf("what was met: %v", met)
		}
	}
}
