package head_test

import (
	"bytes"
	"fmt"
	"math/rand"
	"testing"

	"pith/api"
	"pith/head"
)

const greatest = 1<<63 - 1

// filter: of a number and its properties.
func filter(id uint64, props ...byte) api.Filter { return api.Filter{ID: id, Props: props} }

// lzma: LZMA2 with the byte that tells its dictionary.
func lzma(props byte) api.Filter { return filter(33, props) }

// apart: Delta with a distance.
func apart(dist int) api.Filter { return filter(3, byte(dist-1)) }

// many: a filter with n bytes of properties, none of them 0.
func many(n int) api.Filter {
	b := noise(int64(n), n)
	for i := range b {
		b[i] |= 1
	}
	return api.Filter{ID: 77, Props: b}
}

// headOf: a header with these sizes and filters.
func headOf(packed, size int, l ...api.Filter) api.Head {
	return api.Head{Packed: packed, Size: size, Filters: l}
}

// plain: one that tells no sizes.
func plain(l ...api.Filter) api.Head { return headOf(-1, -1, l...) }

// chains: such as are read here.
func chains() [][]api.Filter {
	return [][]api.Filter{{lzma(0)}, {lzma(1)}, {lzma(39)}, {lzma(40)}, {apart(1), lzma(0)}, {apart(2), lzma(22)}, {apart(256), lzma(40)}}
}

// noChains: such as are not, one to four filters each.
func noChains() [][]api.Filter {
	return [][]api.Filter{
		{lzma(41)}, {lzma(255)}, {filter(33)}, {filter(33, 0, 0)}, {apart(1)}, {filter(4)}, {filter(0)}, {filter(32, 0)}, {filter(33+128, 0)}, {filter(33+256, 0)}, {filter(33+1<<32, 0)}, {filter(greatest, 0)},
		{lzma(0), lzma(0)}, {lzma(0), apart(1)}, {apart(1), apart(1)}, {apart(1), lzma(41)}, {filter(3), lzma(0)}, {filter(3, 0, 0), lzma(0)}, {filter(4), lzma(0)}, {apart(1), filter(33)}, {apart(1), filter(33, 1, 1)},
		{apart(1), apart(1), lzma(0)}, {apart(1), lzma(0), lzma(0)}, {filter(4), apart(1), lzma(0)}, {lzma(0), lzma(0), lzma(0)},
		{apart(1), apart(1), apart(1), lzma(0)}, {lzma(0), lzma(0), lzma(0), lzma(0)}, {filter(4), filter(5), apart(2), lzma(0)},
	}
}

// told: sizes from 1 on, at the edges of how many bytes they have.
func told() []int {
	all := []int{1, 2, 5, 300}
	for bits := 7; bits < 63; bits += 7 {
		all = append(all, 1<<bits-1, 1<<bits, 1<<bits+1)
	}
	return append(all, 1<<31-1, 1<<31, 1<<32-1, 1<<32, greatest-1, greatest)
}

// noise: n bytes by chance.
func noise(seed int64, n int) []byte {
	b := make([]byte, n)
	rand.New(rand.NewSource(seed)).Read(b)
	return b
}

// sumByWords: the CRC-32 by chapter 3's words, bit by bit; its bytes, the lowest first.
func sumByWords(b []byte) []byte {
	s := ^uint32(0)
	for _, x := range b {
		s ^= uint32(x)
		for range 8 {
			if s%2 == 1 {
				s = s>>1 ^ 0xEDB88320
			} else {
				s >>= 1
			}
		}
	}
	s = ^s
	return []byte{byte(s), byte(s >> 8), byte(s >> 16), byte(s >> 24)}
}

// sealed: bytes with their sum behind them.
func sealed(b ...byte) []byte { return append(bytes.Clone(b), sumByWords(b)...) }

// headed: a header with these flags and this room, and the right sum. The room must fit.
func headed(flags byte, room ...byte) []byte {
	n := 1 + 1 + len(room) + 4
	if n%4 != 0 || n < 8 || n > 1024 {
		panic(fmt.Sprint("a header of ", n, " bytes"))
	}
	return sealed(append([]byte{byte(n/4 - 1), flags}, room...)...)
}

// filled: likewise, of a room that is filled up with zeros.
func filled(flags byte, room ...byte) []byte {
	for len(room)%4 != 2 {
		room = append(room[:len(room):len(room)], 0)
	}
	return headed(flags, room...)
}

// sevens: the bytes of a number by chapter 2's words: groups of seven bits, by division.
func sevens(v uint64) []byte {
	b := []byte{}
	for v >= 128 {
		b = append(b, byte(v%128)+128)
		v /= 128
	}
	return append(b, byte(v))
}

// bytesOf: filters' bytes, one behind the other, by chapter 20's words.
func bytesOf(l ...api.Filter) []byte {
	var b []byte
	for _, f := range l {
		b = append(append(append(b, sevens(f.ID)...), sevens(uint64(len(f.Props)))...), f.Props...)
	}
	return b
}

// putByWords: Put, sentence by sentence of P21.1.
func putByWords(h api.Head, pad int) ([]byte, api.Errno) {
	if h.Packed < -1 || h.Packed == 0 || h.Size < -1 || pad < 0 {
		return nil, api.ErrRange
	}
	if len(h.Filters) < 1 || len(h.Filters) > 4 {
		return nil, api.ErrConfig
	}
	for _, f := range h.Filters {
		if f.ID > greatest {
			return nil, api.ErrRange
		}
	}
	flags := byte(len(h.Filters) - 1)
	var room []byte
	if h.Packed != -1 {
		flags |= 64
		room = append(room, sevens(uint64(h.Packed))...)
	}
	if h.Size != -1 {
		flags |= 128
		room = append(room, sevens(uint64(h.Size))...)
	}
	room = append(room, bytesOf(h.Filters...)...)
	for (1+1+len(room)+4)%4 != 0 {
		room = append(room, 0)
	}
	for ; pad > 0 && len(room) <= 1018; pad-- {
		room = append(room, 0, 0, 0, 0)
	}
	if 1+1+len(room)+4 > 1024 {
		return nil, api.ErrRange
	}
	return headed(flags, room...), api.OK
}

// numberByWords: chapter 2's words on reading a number; -1 bytes: none lies there.
func numberByWords(b []byte) (uint64, int) {
	v := uint64(0)
	for i := range b {
		if i == 8 && b[i] >= 128 || i > 0 && b[i] == 0 {
			return 0, -1
		}
		v += uint64(b[i]%128) << (7 * i)
		if b[i] < 128 {
			return v, i + 1
		}
	}
	return 0, -1
}

// filterByWords: the filter at the front of what is left of a room; -1 bytes: none lies there.
func filterByWords(b []byte) (api.Filter, int) {
	id, n := numberByWords(b)
	if n < 0 {
		return api.Filter{}, -1
	}
	count, m := numberByWords(b[n:])
	if m < 0 || count > uint64(len(b)-n-m) {
		return api.Filter{}, -1
	}
	end := n + m + int(count)
	return api.Filter{ID: id, Props: b[n+m : end]}, end
}

// isChain: is it one that is read here?
func isChain(l []api.Filter) bool {
	isLZMA2 := func(f api.Filter) bool { return f.ID == 33 && len(f.Props) == 1 && f.Props[0] <= 40 }
	switch len(l) {
	case 1:
		return isLZMA2(l[0])
	case 2:
		return l[0].ID == 3 && len(l[0].Props) == 1 && isLZMA2(l[1])
	}
	return false
}

// getByWords: Get, sentence by sentence of P21.2, and how many zeros there are.
func getByWords(b []byte) (api.Head, int, api.Errno) {
	fault := func(e api.Errno) (api.Head, int, api.Errno) { return api.Head{}, 0, e }
	if len(b) == 0 {
		return fault(api.ErrTruncated)
	}
	if b[0] == 0 {
		return fault(api.ErrFormat)
	}
	n := 4 * (int(b[0]) + 1)
	if len(b) < n {
		return fault(api.ErrTruncated)
	}
	if !bytes.Equal(sumByWords(b[:n-4]), b[n-4:n]) {
		return fault(api.ErrCheck)
	}
	flags, room := b[1], b[2:n-4]
	for _, bit := range []byte{4, 8, 16, 32} {
		if flags&bit != 0 {
			return fault(api.ErrUnsupported)
		}
	}
	h := api.Head{Packed: -1, Size: -1, Bytes: n}
	for _, s := range []struct {
		flag byte
		to   *int
	}{{64, &h.Packed}, {128, &h.Size}} {
		if flags&s.flag != 0 {
			v, k := numberByWords(room)
			if k < 0 || s.flag == 64 && v == 0 {
				return fault(api.ErrFormat)
			}
			*s.to, room = int(v), room[k:]
		}
	}
	for range flags%4 + 1 {
		f, k := filterByWords(room)
		if k < 0 {
			return fault(api.ErrFormat)
		}
		h.Filters, room = append(h.Filters, f), room[k:]
	}
	for _, zero := range room {
		if zero != 0 {
			return fault(api.ErrUnsupported)
		}
	}
	if !isChain(h.Filters) {
		return fault(api.ErrUnsupported)
	}
	return h, len(room), api.OK
}

// same: nil and empty lists are the same.
func same(a, b api.Head) bool {
	if a.Packed != b.Packed || a.Size != b.Size || a.Bytes != b.Bytes || len(a.Filters) != len(b.Filters) {
		return false
	}
	for i, f := range a.Filters {
		if f.ID != b.Filters[i].ID || !bytes.Equal(f.Props, b.Filters[i].Props) {
			return false
		}
	}
	return true
}

// sized: h, read from so many bytes.
func sized(h api.Head, n int) api.Head {
	h.Bytes = n
	return h
}

// laid: the bytes of a header that is right.
func laid(t *testing.T, h api.Head, pad int) []byte {
	t.Helper()
	b, errno := head.Put(h, pad)
	if errno != api.OK {
		t.Fatalf("Put(%s, %d): error %d", shownHead(h), pad, errno)
	}
	return b
}

// wantPut: just these bytes.
func wantPut(t *testing.T, h api.Head, pad int, want ...byte) {
	t.Helper()
	if b, errno := head.Put(h, pad); !bytes.Equal(b, want) || errno != api.OK {
		t.Errorf("Put(%s, %d): %s, error %d; want %s", shownHead(h), pad, shown(b), errno, shown(want))
	}
}

// wantNoPut: refused so.
func wantNoPut(t *testing.T, h api.Head, pad int, want api.Errno) {
	t.Helper()
	if b, errno := head.Put(h, pad); len(b) != 0 || errno != want {
		t.Errorf("Put(%s, %d): %s, error %d; want error %d", shownHead(h), pad, shown(b), errno, want)
	}
}

// wantPutByWords: what the words say.
func wantPutByWords(t *testing.T, h api.Head, pad int) {
	t.Helper()
	if b, errno := putByWords(h, pad); errno != api.OK {
		wantNoPut(t, h, pad, errno)
	} else {
		wantPut(t, h, pad, b...)
	}
}

// wantGet: this header.
func wantGet(t *testing.T, b []byte, want api.Head) {
	t.Helper()
	if h, errno := head.Get(b); !same(h, want) || errno != api.OK {
		t.Errorf("Get(%s): %s, error %d; want %s", shown(b), shownHead(h), errno, shownHead(want))
	}
}

// wantNoGet: refused so, and every other result is zero.
func wantNoGet(t *testing.T, b []byte, want api.Errno) {
	t.Helper()
	if h, errno := head.Get(b); !same(h, api.Head{}) || errno != want {
		t.Errorf("Get(%s): %s, error %d; want error %d", shown(b), shownHead(h), errno, want)
	}
}

// wantGetByWords: what the words say; their error.
func wantGetByWords(t *testing.T, b []byte) api.Errno {
	t.Helper()
	h, _, errno := getByWords(b)
	if errno != api.OK {
		wantNoGet(t, b, errno)
	} else {
		wantGet(t, b, h)
	}
	return errno
}

// shown: the front of bytes in base sixteen.
func shown(b []byte) string {
	s := fmt.Sprintf("% X", b[:min(40, len(b))])
	if len(b) > 40 {
		s += fmt.Sprintf(" .. (%d)", len(b))
	}
	return "[" + s + "]"
}

// shownHead: its filters as they would lie in it.
func shownHead(h api.Head) string {
	s := fmt.Sprintf("{%d, %d, ", h.Packed, h.Size)
	for _, f := range h.Filters {
		s += shown(bytesOf(f))
	}
	return s + fmt.Sprintf(", %d}", h.Bytes)
}

// withRoom: b, and behind it room with other bytes in it.
func withRoom(b []byte) []byte {
	room := append(bytes.Clone(b), 0xAA, 0, 0xE0, 1, 0x21, 1, 0, 0x80, 0x7F)
	return room[:len(b):len(room)]
}

// spoil: all bytes, those of the spare room too; and then it is lengthened.
func spoil(b []byte) {
	for i := range b[:cap(b)] {
		b[:cap(b)][i] ^= 0xFF
	}
	_ = append(b, 1, 2, 3, 4, 5)
}

// spoilFilters: likewise of filters, and of their properties.
func spoilFilters(l []api.Filter) {
	for i := range l[:cap(l)] {
		spoil(l[:cap(l)][i].Props)
		l[:cap(l)][i] = filter(77, 7, 7)
	}
	_ = append(l, filter(78), filter(79, 9))
}
