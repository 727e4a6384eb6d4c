package frame_test

import (
	"bytes"
	"fmt"
	"math/rand"
	"slices"
	"testing"

	"pith/api"
	"pith/frame"
)

// mostIndex: the greatest size of an index that a footer tells.
const mostIndex = 17179869184

// kinds: those that are read here.
var kinds = []int{0, 1, 4, 10}

// wrongKinds: the edges, those that the format knows further, and such as have a right kind's byte at their low end.
var wrongKinds = []int{
	-1 << 63, -1<<63 + 4, -1 << 62, -1 << 32, -1<<32 + 4, -1 << 31, -256, -255, -252, -246, -10, -4, -2, -1,
	2, 3, 5, 6, 7, 8, 9, 11, 12, 13, 14, 15, 16, 17, 20, 26, 32, 64, 127, 128, 132, 255,
	256, 257, 260, 266, 512, 516, 1 << 16, 1<<16 + 4, 1 << 32, 1<<32 + 1, 1<<32 + 4, 1<<32 + 10, 1 << 62, 1<<63 - 1,
}

// indexes: sizes that a footer tells: the edges, and each byte of what is told.
func indexes() []int {
	all := []int{4, 8, 12, 16, 20, 108, 1020, 1024, 1028, 40008, 750008, mostIndex - 8, mostIndex - 4, mostIndex}
	for bits := 2; bits <= 34; bits++ {
		all = append(all, 1<<bits)
		if bits > 2 {
			all = append(all, 1<<bits-4)
		}
		if bits < 34 {
			all = append(all, 1<<bits+4)
		}
	}
	return all
}

// wrongIndexes: sizes that no footer tells.
func wrongIndexes() []int {
	all := []int{
		-1 << 63, -1<<63 + 4, -1<<63 + 8, -1 << 62, -mostIndex, -1 << 32, -1 << 31, -1024, -8, -5, -4, -3, -2, -1, 0, 1, 2, 3, 5, 6, 7, 9, 10, 11, 1022, 1023, 1025,
		mostIndex - 7, mostIndex - 5, mostIndex - 3, mostIndex - 2, mostIndex - 1, mostIndex + 1, mostIndex + 2, mostIndex + 3, mostIndex + 4, mostIndex + 8, mostIndex + 12,
		2 * mostIndex, 1 << 36, 1 << 40, 1<<40 + 8, 1 << 62, 1<<62 + 8, 1<<63 - 8, 1<<63 - 4, 1<<63 - 1,
	}
	for bits := 2; bits < 34; bits++ {
		all = append(all, 1<<bits+1, 1<<bits+2, 1<<bits+3)
	}
	return all
}

// noise: n bytes by chance.
func noise(seed int64, n int) []byte {
	b := make([]byte, n)
	rand.New(rand.NewSource(seed)).Read(b)
	return b
}

// sumByWords: the CRC-32 by chapter 3's words, bit by bit; its bytes, the lowest first.
func sumByWords(b []byte) []byte {
	s := ^uint32(0)
	for _, x := range b {
		s ^= uint32(x)
		for range 8 {
			if s%2 == 1 {
				s = s>>1 ^ 0xEDB88320
			} else {
				s >>= 1
			}
		}
	}
	s = ^s
	return []byte{byte(s), byte(s >> 8), byte(s >> 16), byte(s >> 24)}
}

// headerOf: a header's mark, these two bytes, and the right CRC.
func headerOf(seventh, eighth byte) []byte {
	b := []byte{0xFD, 0x37, 0x7A, 0x58, 0x5A, 0x00, seventh, eighth}
	return append(b, sumByWords(b[6:])...)
}

// footerOf: the right CRC, what is told, these two bytes, and a footer's mark.
func footerOf(told uint32, ninth, tenth byte) []byte {
	b := []byte{byte(told), byte(told >> 8), byte(told >> 16), byte(told >> 24), ninth, tenth}
	return slices.Concat(sumByWords(b), b, []byte{0x59, 0x5A})
}

// headerByWords: Header, by the chapter's words.
func headerByWords(kind int) ([]byte, api.Errno) {
	if !slices.Contains(kinds, kind) {
		return nil, api.ErrConfig
	}
	return headerOf(0, byte(kind)), api.OK
}

// footerByWords: Footer, by the chapter's words.
func footerByWords(kind, index int) ([]byte, api.Errno) {
	if !slices.Contains(kinds, kind) {
		return nil, api.ErrConfig
	}
	if index < 4 || index > mostIndex || index%4 != 0 {
		return nil, api.ErrRange
	}
	return footerOf(uint32(index/4-1), 0, byte(kind)), api.OK
}

// readHeaderByWords: ReadHeader, sentence by sentence of P24.2.
func readHeaderByWords(b []byte) (int, api.Errno) {
	if len(b) < 12 {
		return 0, api.ErrTruncated
	}
	if string(b[:6]) != "\xFD7zXZ\x00" {
		return 0, api.ErrFormat
	}
	if !bytes.Equal(b[8:12], sumByWords(b[6:8])) {
		return 0, api.ErrCheck
	}
	if b[6] != 0 || !slices.Contains(kinds, int(b[7])) {
		return 0, api.ErrUnsupported
	}
	return int(b[7]), api.OK
}

// readFooterByWords: ReadFooter, sentence by sentence of P24.3.
func readFooterByWords(b []byte) (int, int, api.Errno) {
	if len(b) < 12 {
		return 0, 0, api.ErrTruncated
	}
	if string(b[10:12]) != "YZ" {
		return 0, 0, api.ErrFormat
	}
	if !bytes.Equal(b[:4], sumByWords(b[4:10])) {
		return 0, 0, api.ErrCheck
	}
	if b[8] != 0 || !slices.Contains(kinds, int(b[9])) {
		return 0, 0, api.ErrFormat
	}
	told := int(b[4]) + int(b[5])*256 + int(b[6])*65536 + int(b[7])*16777216
	return int(b[9]), (told + 1) * 4, api.OK
}

// wantHeader: just these bytes.
func wantHeader(t *testing.T, kind int, want ...byte) {
	t.Helper()
	if b, errno := frame.Header(kind); !bytes.Equal(b, want) || errno != api.OK {
		t.Errorf("Header(%d): %s, error %d; want %s", kind, shown(b), errno, shown(want))
	}
}

// wantNoHeader: ErrConfig, and no bytes.
func wantNoHeader(t *testing.T, kind int) {
	t.Helper()
	if b, errno := frame.Header(kind); len(b) != 0 || errno != api.ErrConfig {
		t.Errorf("Header(%d): %s, error %d; want error %d", kind, shown(b), errno, api.ErrConfig)
	}
}

// wantFooter: just these bytes.
func wantFooter(t *testing.T, kind, index int, want ...byte) {
	t.Helper()
	if b, errno := frame.Footer(kind, index); !bytes.Equal(b, want) || errno != api.OK {
		t.Errorf("Footer(%d, %d): %s, error %d; want %s", kind, index, shown(b), errno, shown(want))
	}
}

// wantNoFooter: refused so, and no bytes.
func wantNoFooter(t *testing.T, kind, index int, want api.Errno) {
	t.Helper()
	if b, errno := frame.Footer(kind, index); len(b) != 0 || errno != want {
		t.Errorf("Footer(%d, %d): %s, error %d; want error %d", kind, index, shown(b), errno, want)
	}
}

// wantLaidByWords: Header and Footer as the words say.
func wantLaidByWords(t *testing.T, kind, index int) {
	t.Helper()
	if b, errno := headerByWords(kind); errno == api.OK {
		wantHeader(t, kind, b...)
	} else {
		wantNoHeader(t, kind)
	}
	if b, errno := footerByWords(kind, index); errno == api.OK {
		wantFooter(t, kind, index, b...)
	} else {
		wantNoFooter(t, kind, index, errno)
	}
}

// wantReadHeader: this kind, or this error and 0.
func wantReadHeader(t *testing.T, b []byte, kind int, want api.Errno) {
	t.Helper()
	if k, errno := frame.ReadHeader(b); k != kind || errno != want {
		t.Errorf("ReadHeader(%s): %d, error %d; want %d, error %d", shown(b), k, errno, kind, want)
	}
}

// wantNoReadHeader: refused so.
func wantNoReadHeader(t *testing.T, b []byte, want api.Errno) {
	t.Helper()
	wantReadHeader(t, b, 0, want)
}

// wantReadFooter: this kind and this size, or this error and zeros.
func wantReadFooter(t *testing.T, b []byte, kind, index int, want api.Errno) {
	t.Helper()
	if k, n, errno := frame.ReadFooter(b); k != kind || n != index || errno != want {
		t.Errorf("ReadFooter(%s): %d, %d, error %d; want %d, %d, error %d", shown(b), k, n, errno, kind, index, want)
	}
}

// wantNoReadFooter: refused so.
func wantNoReadFooter(t *testing.T, b []byte, want api.Errno) {
	t.Helper()
	wantReadFooter(t, b, 0, 0, want)
}

// wantReadByWords: both calls, as the words say; the two errors.
func wantReadByWords(t *testing.T, b []byte) (api.Errno, api.Errno) {
	t.Helper()
	kind, one := readHeaderByWords(b)
	wantReadHeader(t, b, kind, one)
	kind, index, other := readFooterByWords(b)
	wantReadFooter(t, b, kind, index, other)
	return one, other
}

// shown: the front of bytes in base sixteen.
func shown(b []byte) string {
	s := fmt.Sprintf("% X", b[:min(40, len(b))])
	if len(b) > 40 {
		s += fmt.Sprintf(" .. (%d)", len(b))
	}
	return "[" + s + "]"
}

// withRoom: b, and behind it room with other bytes in it.
func withRoom(b []byte, others ...byte) []byte {
	room := append(bytes.Clone(b), others...)
	return room[:len(b):len(room)]
}

// spoil: every byte, those of the spare room too, becomes x; and then the bytes are lengthened.
func spoil(b []byte, x byte) {
	for i := range b[:cap(b)] {
		b[:cap(b)][i] = x
	}
	_ = append(b, x, x, x)
}
