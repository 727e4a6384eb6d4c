package head_test

import (
	"bytes"
	"math/rand"
	"slices"
	"testing"

	"pith/api"
)

// P21.2: the chapter's examples.
func TestGetOfExamples(t *testing.T) {
	one := sealed(2, 0, 0x21, 1, 0, 0, 0, 0)
	wantGet(t, one, sized(plain(lzma(0)), 12))
	wantNoGet(t, nil, api.ErrTruncated)
	wantNoGet(t, []byte{0, 1}, api.ErrFormat)
	wantNoGet(t, []byte{2}, api.ErrTruncated)
	wantNoGet(t, one[:11], api.ErrTruncated)
	wantNoGet(t, append(bytes.Clone(one[:11]), one[11]^1), api.ErrCheck)
	wantNoGet(t, sealed(2, 4, 0x21, 1, 0, 0, 0, 0), api.ErrUnsupported)
	wantNoGet(t, sealed(1, 0x40, 0, 0x21), api.ErrFormat)
	wantNoGet(t, sealed(1, 0x40, 0x80, 0x80), api.ErrFormat)
	wantNoGet(t, sealed(2, 0, 0x21, 1, 0, 0, 0, 1), api.ErrUnsupported)
	wantNoGet(t, sealed(2, 0, 4, 0, 0, 0, 0, 0), api.ErrUnsupported)
}

// behinds: what may stand behind a header.
func behinds() [][]byte {
	return [][]byte{nil, {0}, {1}, {0xFF, 0xFF}, {0x21, 1, 0}, {1, 0, 2, 'a', 'b', 'c', 0}, noise(1, 50)}
}

// P21.2: no byte, and a first byte 0, whatever stands behind.
func TestGetOfNoHeader(t *testing.T) {
	wantNoGet(t, nil, api.ErrTruncated)
	wantNoGet(t, []byte{}, api.ErrTruncated)
	wantNoGet(t, withRoom(nil), api.ErrTruncated)
	wantNoGet(t, sealed(1, 0, 5, 0)[:0], api.ErrTruncated)
	for _, behind := range append(behinds(), sealed(2, 0, 0x21, 1, 0, 0, 0, 0), make([]byte, 2000)) {
		wantNoGet(t, append([]byte{0}, behind...), api.ErrFormat)
	}
	wantNoGet(t, withRoom([]byte{0}), api.ErrFormat)
	// Even if its four bytes were a sum of none.
	wantNoGet(t, []byte{0, 0, 0, 0}, api.ErrFormat)
}

// P21.2: every beginning of a header ends too early, also where its rest lies in the room behind.
func TestGetOfBeginnings(t *testing.T) {
	for _, h := range []api.Head{plain(lzma(0)), plain(apart(1), lzma(0)), headOf(5, 300, lzma(0)), headOf(greatest, greatest, apart(256), lzma(40)), plain(filter(4)), plain(many(400))} {
		for _, pad := range []int{0, 1, 100} {
			b := laid(t, h, pad)
			for n := range b {
				wantNoGet(t, b[:n], api.ErrTruncated)
				wantNoGet(t, bytes.Clone(b[:n]), api.ErrTruncated)
				wantNoGet(t, withRoom(b[:n]), api.ErrTruncated)
			}
		}
	}
	// Ahead of all that is wrong in it.
	for first := 1; first < 256; first++ {
		for _, x := range []byte{0, 0x3C, 0xFF} {
			b := bytes.Repeat([]byte{x}, 4*(first+1)-1)
			b[0] = byte(first)
			wantNoGet(t, b, api.ErrTruncated)
			wantNoGet(t, append(b, x^0x55), api.ErrCheck)
			wantNoGet(t, b[:1], api.ErrTruncated)
		}
	}
}

// P21.2: a beginning with other bytes behind it is a header with another sum.
func TestGetOfBeginningsWithOthersBehind(t *testing.T) {
	b := laid(t, headOf(5, 300, lzma(0)), 1)
	for n := 1; n < len(b); n++ {
		whole := bytes.Clone(b)
		for i := n; i < len(b); i++ {
			whole[i] ^= byte(7 * i)
		}
		wantNoGet(t, whole, api.ErrCheck)
		wantNoGet(t, append(whole, 0, 0), api.ErrCheck)
	}
}

// P21.2: each of the last four bytes, changed to every other.
func TestGetOfAnotherSum(t *testing.T) {
	for _, b := range [][]byte{laid(t, plain(lzma(0)), 0), laid(t, headOf(5, 300, apart(2), lzma(3)), 2), sealed(2, 0x3C, 0, 0, 0, 0, 0, 0), sealed(1, 0xFF, 0x80, 0x80)} {
		for i := len(b) - 4; i < len(b); i++ {
			for x := 1; x < 256; x++ {
				other := bytes.Clone(b)
				other[i] ^= byte(x)
				wantNoGet(t, other, api.ErrCheck)
			}
		}
		// The highest byte first; and all bits turned over.
		other := bytes.Clone(b)
		slices.Reverse(other[len(b)-4:])
		wantNoGet(t, other, api.ErrCheck)
		for i := len(b) - 4; i < len(b); i++ {
			other[i] = b[i] ^ 0xFF
		}
		wantNoGet(t, other, api.ErrCheck)
	}
}

// P21.2: each of the flags' bits 2 to 5, by itself and all ways together, ahead of all that is wrong in the room; with a wrong sum that is told.
func TestGetOfSpareFlags(t *testing.T) {
	for flags := range 256 {
		for _, room := range [][]byte{{0x21, 1, 0, 0, 0, 0}, {5, 5, 0x21, 1, 0, 0}, {0x80, 0, 0, 0, 0, 0}, {0, 0, 0, 0, 0, 0}, {4, 0, 0, 0, 0, 9}, {0xFF, 0xFF, 0xFF, 0xFF, 0xFF, 0xFF}} {
			b := headed(byte(flags), room...)
			wantGetByWords(t, b)
			if flags&0x3C != 0 {
				wantNoGet(t, b, api.ErrUnsupported)
			}
			b[len(b)-1] ^= 1
			wantNoGet(t, b, api.ErrCheck)
		}
	}
}

// P21.2: the sizes that are told, at the edges, with zeros of all lengths and anything behind.
func TestGetOfSizes(t *testing.T) {
	for _, packed := range append(told(), -1) {
		for _, size := range append(told(), -1, 0) {
			h := headOf(packed, size, lzma(0))
			for pad := range 3 {
				b := laid(t, h, pad)
				wantGet(t, b, sized(h, len(b)))
				wantGet(t, append(b, 0x80, 0), sized(h, len(b)))
			}
		}
	}
}

// noNumbers: bytes that no number begins with, whatever stands behind them.
func noNumbers() [][]byte {
	all := [][]byte{bytes.Repeat([]byte{0x80}, 9), bytes.Repeat([]byte{0xFF}, 9), append(bytes.Repeat([]byte{0x80}, 9), 1)}
	for n := 1; n <= 8; n++ {
		all = append(all, append(bytes.Repeat([]byte{0x80}, n), 0), append(bytes.Repeat([]byte{0xA1}, n), 0))
	}
	return all
}

// P21.2: sizes that have a longer form than they need, or than any number has; whichever of the two.
func TestGetOfTooLongSizes(t *testing.T) {
	for _, x := range noNumbers() {
		for _, rest := range [][]byte{{0x21, 1, 0}, {0, 0x21, 1, 0}, {5, 0x21, 1, 0}, {0x80, 0x80, 0x80}} {
			room := append(bytes.Clone(x), rest...)
			wantNoGet(t, filled(64, room...), api.ErrFormat)
			wantNoGet(t, filled(128, room...), api.ErrFormat)
			wantNoGet(t, filled(192, room...), api.ErrFormat)
			wantNoGet(t, filled(192, append([]byte{5}, room...)...), api.ErrFormat)
			wantNoGet(t, filled(192, append([]byte{0x80, 1}, room...)...), api.ErrFormat)
		}
	}
}

// P21.2: a packed size 0, whatever follows; a plain size 0 is right.
func TestGetOfNoPackedBytes(t *testing.T) {
	wantNoGet(t, filled(64, 0, 0x21, 1, 0), api.ErrFormat)
	wantNoGet(t, filled(192, 0, 0, 0x21, 1, 0), api.ErrFormat)
	wantNoGet(t, filled(192, 0, 5, 0x21, 1, 0), api.ErrFormat)
	wantNoGet(t, filled(64, 0, 4, 0), api.ErrFormat)
	wantNoGet(t, filled(64, 0, 0x21, 1, 0, 9), api.ErrFormat)
	wantNoGet(t, filled(65, 0, 3, 1, 0, 0x21, 1, 0), api.ErrFormat)
	wantGet(t, filled(128, 0, 0x21, 1, 0), sized(headOf(-1, 0, lzma(0)), 12))
	wantGet(t, filled(192, 1, 0, 0x21, 1, 0), sized(headOf(1, 0, lzma(0)), 12))
}

// P21.2: sizes that do not end in the room: the sum and what stands behind the header would end them, but do not count.
func TestGetOfSizesThatEndTooLate(t *testing.T) {
	for _, n := range []int{2, 6} {
		for _, x := range []byte{0x80, 0xFF, 0xA1} {
			for _, flags := range []byte{64, 128, 192} {
				b := headed(flags, bytes.Repeat([]byte{x}, n)...)
				for _, behind := range append(behinds(), []byte{5, 0x21, 1, 0}) {
					wantNoGet(t, append(bytes.Clone(b), behind...), api.ErrFormat)
				}
			}
			room := append([]byte{5}, bytes.Repeat([]byte{x}, n-1)...)
			wantNoGet(t, append(headed(192, room...), 5, 0x21, 1, 0), api.ErrFormat)
		}
	}
}

// cuts: what is right of a room, cut at every place where a room can end; want is asked of what is cut.
func cuts(whole []byte, want func(room []byte)) {
	for n := 2; n < len(whole); n += 4 {
		want(whole[:n:n])
	}
}

// P21.2: filters that are cut at every place of the room, also where the sum and what stands behind would go on with them.
func TestGetOfCutFilters(t *testing.T) {
	places := map[int]bool{}
	for _, sizes := range [][]byte{{}, {5}, {0x80, 1}, {0x80, 0x80, 1}} {
		flags := byte(0)
		if len(sizes) > 0 {
			flags = 64
		}
		for _, l := range [][]api.Filter{
			{lzma(0)}, {filter(300, 7, 8)}, {filter(greatest, 1, 2, 3)}, {apart(1), lzma(0)}, {apart(2), filter(128, 1, 2, 3, 4, 5)}, {many(200)}, {lzma(0), many(130)},
			{filter(4), apart(3), lzma(0)}, {filter(4), filter(5), apart(3), lzma(0)}, {filter(1 << 40), filter(0), filter(0), lzma(9)},
		} {
			whole := append(bytes.Clone(sizes), bytesOf(l...)...)
			cuts(whole, func(room []byte) {
				places[len(room)-len(sizes)] = true
				b := headed(flags+byte(len(l)-1), room...)
				for _, behind := range append(behinds(), whole[len(room):]) {
					wantNoGet(t, append(bytes.Clone(b), behind...), api.ErrFormat)
				}
			})
		}
	}
	for n := range 8 {
		if !places[n] {
			t.Errorf("no filter is cut behind %d bytes", n)
		}
	}
}

// P21.2: more filters are told than there are.
func TestGetOfTooFewFilters(t *testing.T) {
	for flags := byte(1); flags < 4; flags++ {
		wantNoGet(t, headed(flags, 0x21, 4, 1, 2, 3, 4), api.ErrFormat)
		wantNoGet(t, headed(flags, 0x21, 3, 1, 2, 3, 0x80), api.ErrFormat)
		wantNoGet(t, headed(flags, 0x21, 3, 1, 2, 3, 3), api.ErrFormat)
		// Zeros are filters with the number 0, as long as there are enough.
		wantNoGet(t, headed(flags, 0x21, 1, 0, 0, 0, 0), []api.Errno{1: api.ErrUnsupported, 2: api.ErrFormat, 3: api.ErrFormat}[flags])
	}
}

// P21.2: more properties are told than are left: by one, and by ever so many.
func TestGetOfTooFewProperties(t *testing.T) {
	for _, count := range []uint64{5, 6, 7, 8, 9, 100, 127, 128, 1<<31 - 1, 1 << 31, 1<<32 - 1, 1 << 32, 1<<32 + 1, 1<<32 + 3, 1 << 62, greatest - 3, greatest - 1, greatest} {
		for _, id := range []uint64{33, 3, 300} {
			b := filled(0, append(sevens(id), sevens(count)...)...)
			wantNoGet(t, b, api.ErrFormat)
			wantNoGet(t, append(b, make([]byte, 300)...), api.ErrFormat)
		}
	}
	for n := 2; n <= 1018; n += 4 {
		for more := 1; more <= 3; more++ {
			b := headed(0, lacking(n, more)...)
			wantNoGet(t, b, api.ErrFormat)
			wantNoGet(t, append(b, 0, 0, 0, 0), api.ErrFormat)
		}
	}
}

// lacking: a room of n bytes with one filter, which would need 1 to 3 more.
func lacking(n, more int) []byte {
	for digits := 1; ; digits++ {
		left := n - 1 - digits
		count := sevens(uint64(left + more))
		if len(count) == digits {
			return append(append([]byte{77}, count...), make([]byte, left)...)
		}
	}
}

// P21.2: wrong forms of a filter's two numbers, of each filter.
func TestGetOfWrongNumbersOfFilters(t *testing.T) {
	for _, x := range noNumbers() {
		for _, behind := range [][]byte{{}, {1, 0}, {0x21, 1, 0}, {0x80}} {
			id := append(bytes.Clone(x), behind...)
			count := append([]byte{0x21}, id...)
			for _, room := range [][]byte{id, count} {
				wantNoGet(t, filled(0, room...), api.ErrFormat)
				wantNoGet(t, filled(1, append([]byte{3, 1, 0}, room...)...), api.ErrFormat)
				wantNoGet(t, filled(2, append([]byte{3, 1, 0, 4, 0}, room...)...), api.ErrFormat)
				wantNoGet(t, filled(67, append([]byte{5, 3, 1, 0, 4, 0, 5, 0}, room...)...), api.ErrFormat)
			}
		}
	}
}

// P21.2: what is wrong in the room is told ahead of a zero that is not 0 and of filters that are no chain; the first in the room first.
func TestGetOfSeveralFaults(t *testing.T) {
	wantNoGet(t, headed(1, 4, 0, 0x80, 0, 0, 9), api.ErrFormat)       // the filter 4 is not known, the other's number is none
	wantNoGet(t, headed(64, 0, 4, 0, 0, 0, 9), api.ErrFormat)         // a packed size 0, a filter that is not known, a zero that is 9
	wantNoGet(t, headed(0, 4, 0, 0, 0, 0, 9), api.ErrUnsupported)     // a filter that is not known, a zero that is 9
	wantNoGet(t, headed(0, 0x21, 1, 41, 9, 9, 9), api.ErrUnsupported) // no dictionary, zeros that are 9
	wantNoGet(t, headed(4, 0x80, 0, 0, 0, 0, 0), api.ErrUnsupported)  // a spare flag, a number that is none
	b := headed(4, 0x80, 0, 0, 0, 0, 0)
	b[11] ^= 1
	wantNoGet(t, b, api.ErrCheck)
	wantNoGet(t, b[:11], api.ErrTruncated)
	b[0] = 0
	wantNoGet(t, b, api.ErrFormat)
	wantNoGet(t, b[:1], api.ErrFormat)
}

// P21.2: each zero by itself, made each other byte.
func TestGetOfZerosThatAreNot(t *testing.T) {
	for _, h := range []api.Head{plain(lzma(0)), plain(apart(1), lzma(5)), headOf(5, 300, lzma(0)), headOf(1<<40, -1, apart(7), lzma(40))} {
		for _, pad := range []int{0, 1, 2, 40} {
			b := laid(t, h, pad)
			_, zeros, _ := getByWords(b)
			for i := len(b) - 4 - zeros; i < len(b)-4; i++ {
				for x := 1; x < 256; x += 1 + pad {
					other := bytes.Clone(b[:len(b)-4])
					other[i] = byte(x)
					wantNoGet(t, sealed(other...), api.ErrUnsupported)
				}
			}
		}
	}
	// The last of the most that there can be.
	b := laid(t, plain(lzma(0)), 253)
	b[1019] = 0x80
	wantNoGet(t, sealed(b[:1020]...), api.ErrUnsupported)
}

// P21.2: filters that are no chain that is read here, with the right sum, whatever sizes are told.
func TestGetOfNoChain(t *testing.T) {
	for _, l := range append(noChains(), []api.Filter{many(200)}, []api.Filter{many(1)}, []api.Filter{apart(1), many(1)}) {
		for _, h := range []api.Head{plain(l...), headOf(5, -1, l...), headOf(-1, 0, l...), headOf(greatest, greatest, l...)} {
			for pad := range 2 {
				wantNoGet(t, laid(t, h, pad), api.ErrUnsupported)
			}
		}
	}
}

// P21.2: all rooms of two bytes, with all flags whose sizes and filters might fit; and some behind them.
func TestGetOfSmallRooms(t *testing.T) {
	for _, flags := range []byte{0, 1, 64, 128, 192, 2} {
		for x := range 256 {
			for y := range 256 {
				wantGetByWords(t, headed(flags, byte(x), byte(y)))
			}
		}
	}
}

// likely: a byte such as headers have.
func likely(r *rand.Rand) byte {
	return []byte{0, 0, 0, 0, 1, 1, 1, 2, 3, 3, 5, 0x21, 0x21, 0x21, 40, 41, 0x80, 0x81, 0xFF, byte(r.Intn(256))}[r.Intn(20)]
}

// P21.2: rooms by chance, with the right sum, and a few wrong ones; and bytes that were headers but for a few.
func TestGetByTheWords(t *testing.T) {
	r := rand.New(rand.NewSource(212))
	met := map[api.Errno]int{}
	for range 200000 {
		room := make([]byte, []int{2, 6, 6, 6, 10, 10, 14}[r.Intn(7)])
		for i := range room {
			room[i] = likely(r)
		}
		flags := []byte{0, 0, 0, 1, 1, 64, 65, 128, 129, 192, 193, 2, 3, byte(r.Intn(256))}[r.Intn(14)]
		met[wantGetByWords(t, headed(flags, room...))]++
	}
	for range 50000 {
		all := chains()
		h := headOf([]int{-1, 1, 200}[r.Intn(3)], []int{-1, 0, 1 << 30}[r.Intn(3)], all[r.Intn(len(all))]...)
		b := laid(t, h, r.Intn(4))
		for range r.Intn(3) {
			b[r.Intn(len(b))] = likely(r)
		}
		if r.Intn(2) == 0 {
			b = sealed(b[:len(b)-4]...)
		}
		b = append(b[:len(b)-r.Intn(2)*r.Intn(len(b))], behinds()[r.Intn(7)]...)
		met[wantGetByWords(t, b)]++
	}
	if len(met) != 5 || min(met[api.OK], met[api.ErrTruncated], met[api.ErrFormat], met[api.ErrCheck], met[api.ErrUnsupported]) < 1000 {
		t.Errorf("what was met: %v", met)
	}
}
