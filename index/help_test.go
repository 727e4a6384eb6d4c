package index_test

import (
	"bytes"
	"fmt"
	"math/big"
	"math/rand"
	"slices"
	"testing"

	"pith/api"
	"pith/index"
)

const greatest = 1<<63 - 1

// rec: a record.
func rec(unpadded, size int) api.Record { return api.Record{Unpadded: unpadded, Size: size} }

// list: of records, by their unpadded and their plain sizes in turn.
func list(sizes ...int) []api.Record {
	l := []api.Record{}
	for i := 0; i < len(sizes); i += 2 {
		l = append(l, rec(sizes[i], sizes[i+1]))
	}
	return l
}

// many: n records by chance, which are right together.
func many(seed int64, n int) []api.Record {
	r := rand.New(rand.NewSource(seed))
	l := []api.Record{}
	for range n {
		l = append(l, rec(5+r.Intn(1<<(1+r.Intn(40))), r.Intn(1<<(1+r.Intn(40)))))
	}
	return l
}

// rightLists: no record, one, several, more than 127 and more than 16383; the edges of each size, and of the sums.
func rightLists() [][]api.Record {
	all := [][]api.Record{
		nil, {}, list(19, 3), list(130, 300), list(5, 0), list(6, 0), list(7, 1), list(8, 127), list(9, 128),
		list(greatest-3, 0), list(greatest-4, greatest), list(greatest-3, greatest), list(greatest-6, 1), list(greatest-7, greatest-1),
		list(19, 3, 20, 0, 21, 5), list(5, 0, 5, 0), list(8, greatest, 8, 0, 8, 0), list(8, 0, 8, 0, 8, greatest), list(8, greatest-1, 9, 1), list(8, 1, 9, greatest-1),
		list(greatest-11, 0, 5, 0), list(5, 0, greatest-11, greatest), list(greatest-11, 3, 8, 4), list(greatest-14, 0, 6, 0), list(1<<62, 1<<62, 1<<62-4, 1<<62-1), list(1<<61, 0, 1<<61, 0, 1<<61, 0, 1<<61-4, 0),
		many(1, 126), many(2, 127), many(3, 128), many(4, 129), many(5, 300), many(6, 16384),
	}
	for bits := 3; bits < 63; bits++ {
		all = append(all, list(1<<bits-1, 1<<bits-1), list(1<<bits, 1<<bits), list(1<<bits+1, 1<<bits+1))
	}
	return all
}

// wrongLists: records that are not right, at each place among others that are; and sums one step above what may be.
func wrongLists() [][]api.Record {
	all := [][]api.Record{
		list(greatest-3, 0, 5, 0), list(5, 0, greatest-3, 0), list(greatest-7, 0, 5, 0), list(greatest-11, 0, 9, 0), list(9, 0, greatest-11, 0), list(greatest-11, 0, 5, 0, 5, 0), list(greatest-10, 0, 5, 0),
		list(5, greatest, 5, 1), list(5, 1, 5, greatest), list(5, greatest-1, 5, 2), list(5, greatest, 5, greatest), list(5, greatest, 5, greatest, 5, 2), list(5, 1<<62, 5, 1<<62), list(1<<62, 0, 1<<62, 0),
		list(1<<61, 0, 1<<61, 0, 1<<61, 0, 1<<61, 0), list(5, 1<<62, 5, 1<<62, 5, 1<<62, 5, 1<<62), list(greatest-3, greatest, greatest-3, greatest, greatest-3, greatest),
	}
	for _, wrong := range wrongRecords() {
		all = append(all, []api.Record{wrong}, []api.Record{wrong, rec(5, 0)}, []api.Record{rec(5, 0), wrong}, []api.Record{rec(5, 0), wrong, rec(8, 1)}, append(many(7, 130), wrong), append([]api.Record{wrong}, many(8, 130)...), []api.Record{wrong, wrong})
	}
	return all
}

// wrongRecords: the one size, the other, or both.
func wrongRecords() []api.Record {
	unpadded := []int{4, 3, 2, 1, 0, -1, -4, -5, -8, -1 << 31, -1 << 32, -1 << 62, -greatest, -greatest - 1, greatest - 2, greatest - 1, greatest}
	size := []int{-1, -2, -128, -1 << 32, -1 << 62, -greatest, -greatest - 1}
	var all []api.Record
	for _, u := range unpadded {
		all = append(all, rec(u, 0), rec(u, 1), rec(u, greatest), rec(u, -1))
	}
	for _, n := range size {
		all = append(all, rec(5, n), rec(greatest-3, n))
	}
	return all
}

// noise: n bytes by chance.
func noise(seed int64, n int) []byte {
	b := make([]byte, n)
	rand.New(rand.NewSource(seed)).Read(b)
	return b
}

// sumByWords: the CRC-32 by chapter 3's words, bit by bit; its bytes, the lowest first.
func sumByWords(b []byte) []byte {
	s := ^uint32(0)
	for _, x := range b {
		s ^= uint32(x)
		for range 8 {
			if s%2 == 1 {
				s = s>>1 ^ 0xEDB88320
			} else {
				s >>= 1
			}
		}
	}
	s = ^s
	return []byte{byte(s), byte(s >> 8), byte(s >> 16), byte(s >> 24)}
}

// sealed: bytes with their sum behind them.
func sealed(b ...byte) []byte { return append(bytes.Clone(b), sumByWords(b)...) }

// filled: likewise, of bytes that are filled up with zeros.
func filled(b ...byte) []byte {
	b = bytes.Clone(b)
	for len(b)%4 != 0 {
		b = append(b, 0)
	}
	return sealed(b...)
}

// sevens: the bytes of a number by chapter 2's words: groups of seven bits, by division.
func sevens(v uint64) []byte {
	b := []byte{}
	for v >= 128 {
		b = append(b, byte(v%128)+128)
		v /= 128
	}
	return append(b, byte(v))
}

// row: a byte 0 and these numbers.
func row(v ...uint64) []byte {
	b := []byte{0}
	for _, x := range v {
		b = append(b, sevens(x)...)
	}
	return b
}

// rowOf: of a list of records.
func rowOf(l []api.Record) []byte {
	v := []uint64{uint64(len(l))}
	for _, r := range l {
		v = append(v, uint64(r.Unpadded), uint64(r.Size))
	}
	return row(v...)
}

// togetherByWords: where the padded sizes, begun at from, and the plain sizes end; false: the list is not right, or that is too much. In numbers without bounds.
func togetherByWords(from int, l []api.Record) (int, int, bool) {
	most, four := big.NewInt(greatest), big.NewInt(4)
	padded, plain := big.NewInt(int64(from)), big.NewInt(0)
	for _, r := range l {
		if r.Unpadded < 5 || r.Unpadded > greatest-3 || r.Size < 0 {
			return 0, 0, false
		}
		n := big.NewInt(int64(r.Unpadded))
		for new(big.Int).Mod(n, four).Sign() != 0 {
			n.Add(n, big.NewInt(1))
		}
		padded.Add(padded, n)
		plain.Add(plain, big.NewInt(int64(r.Size)))
	}
	if padded.Cmp(most) > 0 || plain.Cmp(most) > 0 {
		return 0, 0, false
	}
	return int(padded.Int64()), int(plain.Int64()), true
}

// putByWords: Put, by the chapter's words.
func putByWords(l []api.Record) ([]byte, api.Errno) {
	if _, _, ok := togetherByWords(0, l); !ok {
		return nil, api.ErrRange
	}
	return filled(rowOf(l)...), api.OK
}

// numberByWords: chapter 2's words on reading a number.
func numberByWords(b []byte) (uint64, int, api.Errno) {
	v := uint64(0)
	for i := range b {
		if i == 8 && b[i] >= 128 || i > 0 && b[i] == 0 {
			return 0, 0, api.ErrFormat
		}
		v += uint64(b[i]%128) << (7 * i)
		if b[i] < 128 {
			return v, i + 1, api.OK
		}
	}
	return 0, 0, api.ErrTruncated
}

// getByWords: Get, sentence by sentence of P23.2.
func getByWords(b []byte) ([]api.Record, int, api.Errno) {
	fault := func(e api.Errno) ([]api.Record, int, api.Errno) { return nil, 0, e }
	if len(b) == 0 {
		return fault(api.ErrTruncated)
	}
	if b[0] != 0 {
		return fault(api.ErrFormat)
	}
	at := 1
	count, n, errno := numberByWords(b[at:])
	if errno != api.OK {
		return fault(errno)
	}
	at += n
	var l []api.Record
	for k := uint64(0); k < count; k++ {
		unpadded, n, errno := numberByWords(b[at:])
		if errno != api.OK {
			return fault(errno)
		}
		at += n
		// The plain size is not read yet: 0 stands for it.
		if _, _, ok := togetherByWords(0, append(slices.Clone(l), rec(int(unpadded), 0))); !ok {
			return fault(api.ErrFormat)
		}
		size, n, errno := numberByWords(b[at:])
		if errno != api.OK {
			return fault(errno)
		}
		at += n
		l = append(l, rec(int(unpadded), int(size)))
		if _, _, ok := togetherByWords(0, l); !ok {
			return fault(api.ErrFormat)
		}
	}
	zeros := 0
	for (at+zeros)%4 != 0 {
		zeros++
	}
	if len(b) < at+zeros {
		return fault(api.ErrTruncated)
	}
	for ; zeros > 0; zeros-- {
		if b[at] != 0 {
			return fault(api.ErrFormat)
		}
		at++
	}
	if len(b) < at+4 {
		return fault(api.ErrTruncated)
	}
	if !bytes.Equal(b[at:at+4], sumByWords(b[:at])) {
		return fault(api.ErrCheck)
	}
	return l, at + 4, api.OK
}

// laid: the index of a list that is right.
func laid(t *testing.T, l []api.Record) []byte {
	t.Helper()
	b, errno := index.Put(l...)
	if errno != api.OK {
		t.Fatalf("Put(%s): error %d", shownList(l), errno)
	}
	return b
}

// placed: the places of a list that is right.
func placed(t *testing.T, from int, l []api.Record) []api.Place {
	t.Helper()
	p, _, _, errno := index.Places(from, l...)
	if errno != api.OK {
		t.Fatalf("Places(%d, %s): error %d", from, shownList(l), errno)
	}
	return p
}

// wantPut: just these bytes, and as many by Size.
func wantPut(t *testing.T, l []api.Record, want ...byte) {
	t.Helper()
	if b, errno := index.Put(l...); !bytes.Equal(b, want) || errno != api.OK {
		t.Errorf("Put(%s): %s, error %d; want %s", shownList(l), shown(b), errno, shown(want))
	}
	if n, errno := index.Size(l...); n != len(want) || errno != api.OK {
		t.Errorf("Size(%s): %d, error %d; want %d", shownList(l), n, errno, len(want))
	}
}

// wantNoPut: ErrRange, by Size too, and every other result is zero.
func wantNoPut(t *testing.T, l []api.Record) {
	t.Helper()
	if b, errno := index.Put(l...); len(b) != 0 || errno != api.ErrRange {
		t.Errorf("Put(%s): %s, error %d; want error %d", shownList(l), shown(b), errno, api.ErrRange)
	}
	if n, errno := index.Size(l...); n != 0 || errno != api.ErrRange {
		t.Errorf("Size(%s): %d, error %d; want error %d", shownList(l), n, errno, api.ErrRange)
	}
}

// wantPutByWords: what the words say.
func wantPutByWords(t *testing.T, l []api.Record) api.Errno {
	t.Helper()
	b, errno := putByWords(l)
	if errno != api.OK {
		wantNoPut(t, l)
	} else {
		wantPut(t, l, b...)
	}
	return errno
}

// wantGet: these records, and so many bytes.
func wantGet(t *testing.T, b []byte, want []api.Record, size int) {
	t.Helper()
	if l, n, errno := index.Get(b); !slices.Equal(l, want) || n != size || errno != api.OK {
		t.Errorf("Get(%s): %s, %d, error %d; want %s, %d", shown(b), shownList(l), n, errno, shownList(want), size)
	}
}

// wantNoGet: refused so, and every other result is zero.
func wantNoGet(t *testing.T, b []byte, want api.Errno) {
	t.Helper()
	if l, n, errno := index.Get(b); len(l) != 0 || n != 0 || errno != want {
		t.Errorf("Get(%s): %s, %d, error %d; want error %d", shown(b), shownList(l), n, errno, want)
	}
}

// wantGetByWords: what the words say; their error.
func wantGetByWords(t *testing.T, b []byte) api.Errno {
	t.Helper()
	l, n, errno := getByWords(b)
	if errno != api.OK {
		wantNoGet(t, b, errno)
	} else {
		wantGet(t, b, l, n)
	}
	return errno
}

// shown: the front of bytes in base sixteen.
func shown(b []byte) string {
	s := fmt.Sprintf("% X", b[:min(40, len(b))])
	if len(b) > 40 {
		s += fmt.Sprintf(" .. (%d)", len(b))
	}
	return "[" + s + "]"
}

// shownList: the front of a list of records.
func shownList(l []api.Record) string {
	s := fmt.Sprint(l[:min(8, len(l))])
	if len(l) > 8 {
		s += fmt.Sprintf(" .. (%d)", len(l))
	}
	return s
}

// withRoom: b, and behind it room with other elements in it.
func withRoom[T any](l []T, others ...T) []T {
	room := append(slices.Clone(l), others...)
	return room[:len(l):len(room)]
}

// spoil: every element, those of the spare room too, becomes x; and then the list is lengthened.
func spoil[T any](l []T, x T) {
	for i := range l[:cap(l)] {
		l[:cap(l)][i] = x
	}
	_ = append(l, x, x, x)
}
