package block_test

import (
	"bytes"
	"math"
	"math/rand"
	"slices"
	"testing"

	"pith/api"
)

// abcBlock: the first one of the chapter's examples, told byte by byte but for its header's sum.
func abcBlock() []byte {
	return join(emptyHeader, []byte{1, 0, 2, 'a', 'b', 'c', 0, 0})
}

// summedBlock: the third one: the same with a CRC-32 behind it.
func summedBlock() []byte {
	return join(abcBlock(), []byte{0xC2, 0x41, 0x24, 0x35})
}

// P22.2: the chapter's examples.
func TestDecodeOfExamples(t *testing.T) {
	abc := abcBlock()
	wantDecoded(t, append(abcBlock(), 0, 1), 0, 4096, []byte("abc"), api.Record{Unpadded: 19, Size: 3}, 20)
	wantDecoded(t, join(emptyHeader, make([]byte, 4)), 0, 4096, nil, api.Record{Unpadded: 13}, 16)
	wantDecoded(t, summedBlock(), 1, 4096, []byte("abc"), api.Record{Unpadded: 23, Size: 3}, 24)
	wantFault(t, abc, 0, 4095, api.ErrMemLimit, 0)
	wantFault(t, abc, 2, 4096, api.ErrUnsupported, 0)
	for n, at := range map[int]int{11: 0, 12: 12, 13: 12, 15: 15, 17: 15, 18: 18, 19: 19} {
		wantFault(t, abc[:n], 0, 4096, api.ErrTruncated, at)
	}
	wantFault(t, turned(abc, 19, 1), 0, 4096, api.ErrFormat, 19)
	wantFault(t, []byte{0}, 0, 4096, api.ErrFormat, 0)
	wantFault(t, nil, 0, 4096, api.ErrTruncated, 0)
	wantFault(t, turned(summedBlock(), 23, 1), 1, 4096, api.ErrCheck, 20)
}

// P22.2: a kind of checks that is none, and one that is not read here, whatever the bytes and the limit.
func TestDecodeOfKinds(t *testing.T) {
	for _, b := range [][]byte{nil, {0}, {2}, abcBlock(), turned(abcBlock(), 5, 1), abcBlock()[:15]} {
		for _, mem := range []int{math.MinInt, -1, 0, 4095, 4096, math.MaxInt} {
			for kind := range 16 {
				if !slices.Contains(kinds, kind) {
					wantFault(t, b, kind, mem, api.ErrUnsupported, 0)
				}
			}
			for _, kind := range append([]int{-1, 16, 17, 26, 256, 257, 266}, far...) {
				wantFault(t, b, kind, mem, api.ErrConfig, 0)
			}
		}
	}
}

// P22.2: no byte, a first byte 0, and less than a header, whatever the limit.
func TestDecodeOfTheFirstByte(t *testing.T) {
	for _, kind := range kinds {
		for _, mem := range []int{math.MinInt, -1, 0, 4095, 4096, math.MaxInt} {
			wantFault(t, nil, kind, mem, api.ErrTruncated, 0)
			wantFault(t, []byte{}, kind, mem, api.ErrTruncated, 0)
			wantFault(t, []byte{0}, kind, mem, api.ErrFormat, 0)
			wantFault(t, append([]byte{0}, abcBlock()...), kind, mem, api.ErrFormat, 0)
			for first := 1; first < 256; first++ {
				short := append([]byte{byte(first)}, make([]byte, 4*first+3)...)
				for _, n := range []int{1, 2, 4*first + 3} {
					wantFault(t, short[:n], kind, mem, api.ErrTruncated, 0)
				}
				wantFault(t, short, kind, mem, api.ErrCheck, 0)
			}
		}
	}
}

// P22.2: a header that is spoilt, each of its bytes: other sums, other flags with the right sum, and rooms that are none.
func TestDecodeOfSpoiltHeaders(t *testing.T) {
	row := []byte{1, 0, 2, 'a', 'b', 'c', 0, 0}
	for _, mem := range []int{0, 4096, math.MaxInt} {
		for at := 1; at < 12; at++ {
			for mask := 1; mask < 256; mask++ {
				wantFault(t, turned(abcBlock(), at, byte(mask)), 0, mem, api.ErrCheck, 0)
			}
		}
		for _, flags := range []byte{4, 8, 16, 32, 60} {
			wantFault(t, join(sealed(2, flags, 0x21, 1, 0, 0, 0, 0), row), 0, mem, api.ErrUnsupported, 0)
		}
		for _, room := range [][]byte{{64, 0, 0x21, 1, 0, 0}, {64, 0x80, 0x80, 0x80, 0x80, 0x80}, {128, 0x80, 0, 0x21, 1, 0}, {0, 0x21, 5, 0, 0, 0}, {1, 0x21, 1, 0, 0x21, 9}, {0, 0x80, 0x80, 0x80, 0x80, 0x80}} {
			wantFault(t, join(sealed(join([]byte{2}, room)...), row), 0, mem, api.ErrFormat, 0)
		}
		for at := 5; at < 8; at++ {
			wantFault(t, join(sealed(turned([]byte{2, 0, 0x21, 1, 0, 0, 0, 0}, at, 1)...), row), 0, mem, api.ErrUnsupported, 0)
		}
	}
}

// P22.2: filters that are no chain that is read here, whatever the limit; the row behind would be read.
func TestDecodeOfNoChains(t *testing.T) {
	for _, l := range [][]api.Filter{
		{lzma(41)}, {lzma(255)}, {filter(33)}, {filter(33, 0, 0)}, {apart(1)}, {filter(4)}, {filter(0)}, {filter(34, 0)}, {filter(33+128, 0)}, {filter(1<<63-1, 0)},
		{lzma(0), lzma(0)}, {lzma(0), apart(1)}, {apart(1), apart(1)}, {apart(1), lzma(41)}, {filter(3), lzma(0)}, {filter(3, 0, 0), lzma(0)}, {filter(4), lzma(0)}, {apart(1), filter(33)},
		{apart(1), apart(1), lzma(0)}, {filter(4), apart(1), lzma(0)}, {lzma(0), lzma(0), lzma(0)}, {apart(1), apart(1), apart(1), lzma(0)},
	} {
		for _, mem := range []int{math.MinInt, -1, 0, 4096, math.MaxInt} {
			for _, row := range [][]byte{nil, {0}, {1, 0, 2, 'a', 'b', 'c', 0, 0}} {
				wantFault(t, join(headed(t, -1, -1, 0, l...), row), 0, mem, api.ErrUnsupported, 0)
			}
		}
	}
}

// P22.2: a limit ahead of the row, its sizes and all behind it; but behind the header's own faults.
func TestDecodeOrder(t *testing.T) {
	for _, rest := range [][]byte{nil, {3}, {1, 0, 2, 'a'}, {0, 1, 1, 1}, {1, 0, 2, 'a', 'b', 'c', 0, 0}} {
		for _, header := range [][]byte{headed(t, -1, -1, 0, lzma(1)), headed(t, 1, 9, 0, lzma(1)), headed(t, -1, -1, 3, apart(7), lzma(1))} {
			for _, kind := range kinds {
				for _, mem := range []int{math.MinInt, -1, 0, 4096, 6143} {
					wantFault(t, join(header, rest), kind, mem, api.ErrMemLimit, 0)
					wantFault(t, join(turned(header, 5, 1), rest), kind, mem, api.ErrCheck, 0)
				}
				wantDecodedByWords(t, join(header, rest), kind, 6144)
			}
		}
	}
	// A zero that is not 0 ahead of a check that is not right or not there; a zero that is not there ahead of one that is not 0.
	wrong := join(emptyHeader, []byte{0, 0, 1, 0}, []byte{1, 2, 3, 4})
	wantFault(t, wrong, 1, 4096, api.ErrFormat, 13)
	wantFault(t, wrong[:16], 1, 4096, api.ErrFormat, 13)
	wantFault(t, wrong[:15], 1, 4096, api.ErrTruncated, 13)
	// A check that is not there whole ahead of one that is not right.
	wrong = join(emptyHeader, make([]byte, 4), []byte{1, 2, 3, 4})
	wantFault(t, wrong, 1, 4096, api.ErrCheck, 16)
	wantFault(t, wrong[:19], 1, 4096, api.ErrTruncated, 16)
}

// P22.2: each zero made another byte, and each cut off, of rows that want one, two and three, with each check.
func TestDecodeOfZeros(t *testing.T) {
	for _, kind := range kinds {
		for n := 1; n <= 8; n++ {
			data := text(n)
			b, r := made(t, data, with(kind, 0, 0))
			sum := len(checkOf(kind, data))
			first, behind := r.Unpadded-sum, len(b)-sum
			if want := (4 - (n+4)%4) % 4; behind-first != want {
				t.Fatalf("%d bytes: %d zeros; want %d", n, behind-first, want)
			}
			for at := first; at < behind; at++ {
				for mask := 1; mask < 256; mask++ {
					wantFault(t, turned(b, at, byte(mask)), kind, 4096, api.ErrFormat, first)
				}
				wantFault(t, b[:at], kind, 4096, api.ErrTruncated, first)
			}
			for at := first; at < behind; at++ {
				for other := first; other < behind; other++ {
					wantFault(t, turned(turned(b, at, 1), other, 2), kind, 4096, api.ErrFormat, first)
				}
			}
		}
	}
}

// P22.2: zeros that there are too many of: the first one that is over stands where the check should.
func TestDecodeOfZerosTooMany(t *testing.T) {
	for n := 1; n <= 8; n++ {
		data := text(n)
		b, r := made(t, data, with(1, 0, 0))
		at := len(b) - 4
		wantFault(t, slices.Insert(bytes.Clone(b), at, 0, 0, 0, 0), 1, 4096, api.ErrCheck, at)
		none, _ := made(t, data, with(0, 0, 0))
		wantDecoded(t, append(none, 0, 0, 0, 0), 0, 4096, data, api.Record{Unpadded: r.Unpadded - 4, Size: n}, len(none))
	}
}

// P22.2: another kind of check than the block has: what stands there is not that check, or is not there whole.
func TestDecodeByAnotherKind(t *testing.T) {
	for _, data := range [][]byte{{9}, []byte("abc"), text(300)} {
		for _, kind := range kinds {
			b, r := made(t, data, with(kind, 1, 0))
			own := len(checkOf(kind, data))
			at := len(b) - own
			for _, other := range kinds {
				if other == kind {
					continue
				}
				wants := len(checkOf(other, data))
				if wants == 0 {
					wantDecoded(t, b, other, 4096, data, api.Record{Unpadded: r.Unpadded - own, Size: len(data)}, at)
					continue
				}
				if wants > own {
					wantFault(t, b, other, 4096, api.ErrTruncated, at)
				}
				wantFault(t, append(bytes.Clone(b), noise(3, 32)...), other, 4096, api.ErrCheck, at)
			}
		}
	}
}

// P22.2: a row that is spoilt at each of its parts' beginnings, and the place that is told.
func TestDecodeOfSpoiltRows(t *testing.T) {
	t.Parallel()
	for _, c := range shapes() {
		for _, data := range [][]byte{[]byte("abc"), text(500), slope(700), noise(4, 300)} {
			b, _ := made(t, data, c)
			for _, p := range partsOf(t, b, c.Check) {
				switch p.what {
				case chunkHead, rowEnd:
					for first := 3; first < 128; first++ {
						other := bytes.Clone(b)
						other[p.at] = byte(first)
						wantFault(t, other, c.Check, 4096, api.ErrFormat, p.at)
					}
				case packedBytes:
					wantFault(t, turned(b, p.at, 1), c.Check, 4096, api.ErrFormat, p.at)
					other := bytes.Clone(b)
					other[p.at-1] = 225 // no properties
					wantFault(t, other, c.Check, 4096, api.ErrFormat, p.at-6)
				case rawBytes:
					a := wantDecodedByWords(t, turned(b, p.at, 1), c.Check, 4096)
					if c.Check == 0 && a.errno != api.OK || c.Check != 0 && a.errno != api.ErrCheck {
						t.Errorf("%+v: another raw byte: error %d", c, a.errno)
					}
				}
			}
		}
	}
}

// P22.2: a row of several chunks of all kinds, spoilt at each of its bytes. What is read all the same (another byte of properties can mean the same symbols) has these data.
func TestDecodeOfSpoiltRowsOfAllKinds(t *testing.T) {
	b := laid(headed(t, -1, -1, 1, apart(2), lzma(0)), allKinds(t), nil)
	a := wantDecodedByWords(t, b, 0, 4096)
	if a.errno != api.OK || a.n != len(b) {
		t.Fatalf("Decode: %s", a)
	}
	b = append(b, checkOf(1, a.data)...)
	met := map[api.Errno]int{}
	for at := range b {
		for _, mask := range []byte{1, 2, 4, 8, 16, 32, 64, 128, 255} {
			spoilt := wantDecodedByWords(t, turned(b, at, mask), 1, 4096)
			met[spoilt.errno]++
			if spoilt.errno == api.OK && !bytes.Equal(spoilt.data, a.data) {
				t.Errorf("the byte %d turned by %d: %s", at, mask, spoilt)
			}
		}
	}
	if met[api.ErrFormat] == 0 || met[api.ErrCheck] == 0 || met[api.ErrTruncated] == 0 {
		t.Errorf("what was met: %v", met)
	}
}

// P22.2: any bytes, kinds and limits: blocks that are spoilt, cut and lengthened, some with the right sum of their header.
func TestDecodeByTheWords(t *testing.T) {
	r := rand.New(rand.NewSource(222))
	var all [][]byte
	for i, c := range shapes() {
		b, _ := made(t, [][]byte{nil, text(200), slope(200), noise(2, 30)}[i%4], c)
		all = append(all, b)
	}
	met := map[api.Errno]int{}
	for range 8000 {
		b := bytes.Clone(all[r.Intn(len(all))])
		for range r.Intn(3) {
			b[r.Intn(len(b))] ^= 1 << r.Intn(8)
		}
		if r.Intn(2) == 0 {
			b = join(sealed(b[:8]...), b[12:])
		}
		if r.Intn(4) == 0 {
			b = b[:r.Intn(len(b)+1)]
		}
		b = append(b, noise(r.Int63(), r.Intn(4))...)
		kind := []int{0, 1, 4, 10, 0, 1, 4, 10, 2, 16}[r.Intn(10)]
		mem := []int{-1, 4095, 4096, 4096, 1 << 32, math.MaxInt}[r.Intn(6)]
		met[wantDecodedByWords(t, b, kind, mem).errno]++
	}
	for errno := api.OK; errno <= api.ErrConfig; errno++ {
		if met[errno] < 20 {
			t.Errorf("what was met: %v", met)
		}
	}
}
