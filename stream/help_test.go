package stream_test

import (
	"bytes"
	"errors"
	"fmt"
	"math/rand"
	"slices"
	"testing"

	"pith/api"
	"pith/block"
	"pith/crc"
	"pith/head"
	"pith/stream"
)

// bare: the configuration of the document's example 2: no check, no Delta filter, raw chunks.
var bare = api.Config{Props: api.Props{LC: 3, PB: 2}, Dict: 4096, Block: 65536}

// kinds: of checks, those that are read here.
var kinds = []int{0, 1, 4, 10}

// modes: all of them.
var modes = []int{api.ModeRaw, api.ModeGreedy, api.ModeCheap}

// with: bare, but for these.
func with(kind, mode, delta, size int) api.Config {
	c := bare
	c.Check, c.Mode, c.Delta, c.Block = kind, mode, delta, size
	return c
}

// shapes: each kind of a check with each mode, with and without a Delta filter, with blocks of a size.
func shapes(size int) []api.Config {
	var all []api.Config
	for _, kind := range kinds {
		for _, mode := range modes {
			for _, delta := range []int{0, 1, 256} {
				all = append(all, with(kind, mode, delta, size))
			}
		}
	}
	return all
}

// join: byte strings one behind the other.
func join(l ...[]byte) []byte { return slices.Concat(l...) }

// noise: n bytes by chance.
func noise(seed int64, n int) []byte {
	b := make([]byte, n)
	rand.New(rand.NewSource(seed)).Read(b)
	return b
}

// text: n bytes that pack as they are.
func text(n int) []byte {
	var b []byte
	for len(b) < n {
		b = append(b, "a file is a header, blocks, an index and a footer: "...)
		b = append(b, byte(len(b)), byte(len(b)/256))
	}
	return b[:n]
}

// slope: n bytes that go up; their differences pack.
func slope(n int) []byte {
	b := make([]byte, n)
	for i := range b {
		b[i] = byte(3*i + i/100)
	}
	return b
}

// mixed: n bytes, the first half and what is over of noise, the other of text.
func mixed(n int) []byte { return join(noise(int64(n), n-n/2), text(n/2)) }

// low: n bytes of v, the lowest first.
func low(v uint64, n int) []byte {
	var b []byte
	for range n {
		b = append(b, byte(v%256))
		v /= 256
	}
	return b
}

// sevens: the bytes of a number by chapter 2's words: groups of seven bits, by division.
func sevens(v int) []byte {
	b := []byte{}
	for v >= 128 {
		b = append(b, byte(v%128)+128)
		v /= 128
	}
	return append(b, byte(v))
}

// sealed: bytes with their CRC-32 behind them.
func sealed(b ...byte) []byte {
	return append(bytes.Clone(b), low(uint64(crc.Sum32(b)), 4)...)
}

// filled: likewise, of bytes that are filled up with zeros to a multiple of four.
func filled(b ...byte) []byte {
	return sealed(join(b, make([]byte, (4-len(b)%4)%4))...)
}

// headerOf: the mark, these two bytes, and the right CRC.
func headerOf(seventh, eighth byte) []byte {
	return join([]byte{0xFD, 0x37, 0x7A, 0x58, 0x5A, 0}, sealed(seventh, eighth))
}

// footerOf: the right CRC, a quarter of the index's size less 1, these two bytes, and the mark.
func footerOf(size int, ninth, tenth byte) []byte {
	b := append(low(uint64(size/4-1), 4), ninth, tenth)
	return join(low(uint64(crc.Sum32(b)), 4), b, []byte{0x59, 0x5A})
}

// rowOf: an index up to its zeros, of how many records it tells, and of these.
func rowOf(count int, l ...api.Record) []byte {
	b := append([]byte{0}, sevens(count)...)
	for _, r := range l {
		b = append(b, join(sevens(r.Unpadded), sevens(r.Size))...)
	}
	return b
}

// indexOf: the right one of these records.
func indexOf(l ...api.Record) []byte { return filled(rowOf(len(l), l...)...) }

// ended: what stands ahead of an index, it, and the right footer.
func ended(kind int, ahead, index []byte) []byte {
	return join(ahead, index, footerOf(len(index), 0, byte(kind)))
}

// filter: of a number and its properties.
func filter(id uint64, props ...byte) api.Filter { return api.Filter{ID: id, Props: props} }

// lzma: LZMA2 with the byte that tells its dictionary.
func lzma(props byte) api.Filter { return filter(33, props) }

// apart: Delta with a distance.
func apart(dist int) api.Filter { return filter(3, byte(dist-1)) }

// headed: a block's header with these sizes and filters, and with so many words of padding more.
func headed(t *testing.T, packed, size, pad int, l ...api.Filter) []byte {
	t.Helper()
	b, errno := head.Put(api.Head{Packed: packed, Size: size, Filters: l}, pad)
	if errno != api.OK {
		t.Fatalf("head.Put(%d, %d, %v, %d): error %d", packed, size, l, pad, errno)
	}
	return b
}

// piece: a block of a file, and its record.
type piece struct {
	b []byte
	r api.Record
}

// laid: a block of a header, a row and a check, whose data have so many bytes.
func laid(header, row, sum []byte, size int) piece {
	n := len(header) + len(row)
	return piece{join(header, row, make([]byte, (4-n%4)%4), sum), api.Record{Unpadded: n + len(sum), Size: size}}
}

// cut: a block of the layer below.
func cut(t *testing.T, data []byte, c api.Config) piece {
	t.Helper()
	b, r, errno := block.Encode(data, c)
	if errno != api.OK {
		t.Fatalf("block.Encode(%d bytes, %+v): error %d", len(data), c, errno)
	}
	return piece{b, r}
}

// fileOf: of blocks, one behind the other.
func fileOf(kind int, l ...piece) []byte {
	ahead := headerOf(0, byte(kind))
	var records []api.Record
	for _, p := range l {
		ahead, records = append(ahead, p.b...), append(records, p.r)
	}
	return ended(kind, ahead, indexOf(records...))
}

// isLegal: by the document's words.
func isLegal(c api.Config) bool {
	p := c.Props
	return slices.Contains(kinds, c.Check) && c.Delta >= 0 && c.Delta <= 256 &&
		p.LC >= 0 && p.LC <= 4 && p.LP >= 0 && p.LP <= 4 && p.LC+p.LP <= 4 && p.PB >= 0 && p.PB <= 4 &&
		c.Dict >= 4096 && c.Dict <= 67108864 && c.Block >= 1 && c.Block <= 2147483648 && c.Mode >= 0 && c.Mode <= 2
}

// encodeByWords: Encode, sentence by sentence of P25.1, of a legal configuration.
func encodeByWords(t *testing.T, data []byte, c api.Config) []byte {
	t.Helper()
	var l []piece
	for at := 0; at < len(data); at += c.Block {
		l = append(l, cut(t, data[at:min(at+c.Block, len(data))], c))
	}
	return fileOf(c.Check, l...)
}

// answer: of Decode and of Places; err: nil, or which of the nine.
type answer struct {
	data   []byte
	places []api.Place
	kind   int
	err    error
	off    int
}

// nine: what can be wrong, in the order of the chapter, with its number.
var nine = []struct {
	err   error
	errno api.Errno
}{
	{stream.Truncated, 1}, {stream.Format, 2}, {stream.Check, 3}, {stream.Unsupported, 4}, {stream.MemLimit, 5}, {stream.Config, 6}, {stream.Range, 7}, {stream.Name, 8}, {stream.Twice, 9},
}

// faultAt: by its number, at a place.
func faultAt(off int, errno api.Errno) answer { return answer{err: nine[errno-1].err, off: off} }

// numberByWords: chapter 2's words on reading a number.
func numberByWords(b []byte) (uint64, int, api.Errno) {
	v := uint64(0)
	for i := range b {
		if i == 8 && b[i] >= 128 || i > 0 && b[i] == 0 {
			return 0, 0, api.ErrFormat
		}
		v += uint64(b[i]%128) << (7 * i)
		if b[i] < 128 {
			return v, i + 1, api.OK
		}
	}
	return 0, 0, api.ErrTruncated
}

// decodeByWords: the document's words on reading from the left; a block by the words of the layer below.
func decodeByWords(f []byte, mem int) answer {
	if len(f) < 12 {
		return faultAt(0, api.ErrTruncated)
	}
	if string(f[:6]) != "\xFD7zXZ\x00" {
		return faultAt(0, api.ErrFormat)
	}
	if !bytes.Equal(f[6:12], sealed(f[6:8]...)) {
		return faultAt(0, api.ErrCheck)
	}
	if f[6] != 0 || !slices.Contains(kinds, int(f[7])) {
		return faultAt(0, api.ErrUnsupported)
	}
	a := answer{kind: int(f[7])}
	for at := 12; ; {
		if at == len(f) {
			return faultAt(at, api.ErrTruncated)
		}
		if f[at] == 0 {
			return endByWords(f, at, a)
		}
		data, r, n, errno := block.Decode(f[at:], a.kind, mem)
		if errno != api.OK {
			return faultAt(at+n, errno)
		}
		a.places = append(a.places, api.Place{Off: at, Record: r, Start: len(a.data)})
		a.data = append(a.data, data...)
		at += n
	}
}

// endByWords: from the index on, of the blocks that were read.
func endByWords(f []byte, at int, a answer) answer {
	front := at
	at++
	numbers := []int{len(a.places)}
	for _, p := range a.places {
		numbers = append(numbers, p.Record.Unpadded, p.Record.Size)
	}
	for _, want := range numbers {
		v, n, errno := numberByWords(f[at:])
		if errno == api.OK && v != uint64(want) {
			errno = api.ErrFormat
		}
		if errno != api.OK {
			return faultAt(at, errno)
		}
		at += n
	}
	end := at
	for (end-front)%4 != 0 {
		end++
	}
	if len(f) < end {
		return faultAt(at, api.ErrTruncated)
	}
	if bytes.Count(f[at:end], []byte{0}) != end-at {
		return faultAt(at, api.ErrFormat)
	}
	if len(f) < end+4 {
		return faultAt(end, api.ErrTruncated)
	}
	if !bytes.Equal(f[front:end+4], sealed(f[front:end]...)) {
		return faultAt(end, api.ErrCheck)
	}
	return footerByWords(f, end+4, end+4-front, a)
}

// footerByWords: behind an index of so many bytes.
func footerByWords(f []byte, at, size int, a answer) answer {
	if len(f) < at+12 {
		return faultAt(at, api.ErrTruncated)
	}
	b := f[at : at+12]
	if string(b[10:]) != "YZ" {
		return faultAt(at, api.ErrFormat)
	}
	if !bytes.Equal(b[:4], low(uint64(crc.Sum32(b[4:10])), 4)) {
		return faultAt(at, api.ErrCheck)
	}
	if !bytes.Equal(b, footerOf(size, 0, byte(a.kind))) {
		return faultAt(at, api.ErrFormat)
	}
	if len(f) > at+12 {
		return faultAt(at+12, api.ErrFormat)
	}
	return a
}

// isFault: this one of the nine, at this place, found in each way in which it is asked.
func isFault(e, want error, off int) bool {
	var f *stream.Fault
	if !errors.As(e, &f) || f.Off != off || f.Err != want || f.Error() == "" || f != e {
		return false
	}
	for _, w := range nine {
		if errors.Is(e, w.err) != (w.err == want) || w.err == want && stream.Code(e) != w.errno {
			return false
		}
	}
	return true
}

// wantRead: Decode's answer and Places'.
func wantRead(t *testing.T, f []byte, mem int, want answer) {
	t.Helper()
	data, e := stream.Decode(f, mem)
	right := e == nil
	if want.err != nil {
		right = isFault(e, want.err, want.off)
	}
	if !right || !bytes.Equal(data, want.data) {
		t.Errorf("Decode(%s, %d): %s, %v; want %s, %v at %d", shown(f), mem, shown(data), e, shown(want.data), want.err, want.off)
	}
	l, kind, e := stream.Places(f, mem)
	right = e == nil
	if want.err != nil {
		right = isFault(e, want.err, want.off)
	}
	if !right || !slices.Equal(l, want.places) || kind != want.kind {
		t.Errorf("Places(%s, %d): %v, %d, %v; want %v, %d, %v at %d", shown(f), mem, l, kind, e, want.places, want.kind, want.err, want.off)
	}
}

// wantFault: by both calls, and every other result is zero.
func wantFault(t *testing.T, f []byte, mem int, want error, off int) {
	t.Helper()
	wantRead(t, f, mem, answer{err: want, off: off})
}

// wantByWords: what the words say, which it answers.
func wantByWords(t *testing.T, f []byte, mem int) answer {
	t.Helper()
	want := decodeByWords(f, mem)
	wantRead(t, f, mem, want)
	return want
}

// wantData: these data, and the places and the kind that the words say.
func wantData(t *testing.T, f []byte, mem int, data []byte) {
	t.Helper()
	if a := wantByWords(t, f, mem); a.err != nil || !bytes.Equal(a.data, data) {
		t.Errorf("the words of %s, %d: %s, %v at %d; want %s", shown(f), mem, shown(a.data), a.err, a.off, shown(data))
	}
}

// made: a file of data, of a configuration that is legal.
func made(t *testing.T, data []byte, c api.Config) []byte {
	t.Helper()
	f, e := stream.Encode(data, c)
	if e != nil {
		t.Fatalf("Encode(%d bytes, %+v): %v", len(data), c, e)
	}
	return f
}

// wantEncoded: just this file.
func wantEncoded(t *testing.T, data []byte, c api.Config, want []byte) {
	t.Helper()
	if f, e := stream.Encode(data, c); !bytes.Equal(f, want) || e != nil {
		t.Errorf("Encode(%s, %+v): %s, %v; want %s", shown(data), c, shown(f), e, shown(want))
	}
}

// wantNotEncoded: Config, and no bytes.
func wantNotEncoded(t *testing.T, data []byte, c api.Config) {
	t.Helper()
	if f, e := stream.Encode(data, c); len(f) != 0 || !isFault(e, stream.Config, 0) {
		t.Errorf("Encode(%s, %+v): %s, %v; want %v", shown(data), c, shown(f), e, stream.Config)
	}
}

// shown: the front of bytes in base sixteen.
func shown(b []byte) string {
	s := fmt.Sprintf("% X", b[:min(60, len(b))])
	if len(b) > 60 {
		s += fmt.Sprintf(" .. (%d)", len(b))
	}
	return "[" + s + "]"
}

// masks: of a byte, each bit by itself, and all.
var masks = []byte{1, 2, 4, 8, 16, 32, 64, 128, 255}

// turned: b with the bits of mask turned over in the byte at a place.
func turned(b []byte, at int, mask byte) []byte {
	other := bytes.Clone(b)
	other[at] ^= mask
	return other
}

// withByte: b with another byte at a place.
func withByte(b []byte, at int, x byte) []byte {
	other := bytes.Clone(b)
	other[at] = x
	return other
}

// withRoom: b, and behind it room with other bytes in it.
func withRoom(b []byte) []byte {
	room := append(bytes.Clone(b), 0, 0, 0, 0, 0x1C, 0xDF, 0x44, 0x21, 0x59, 0x5A, 0xAA)
	return room[:len(b):len(room)]
}

// spoil: all bytes, those of the spare room too; and then it is lengthened.
func spoil(b []byte) {
	for i := range b[:cap(b)] {
		b[:cap(b)][i] ^= 0xFF
	}
	_ = append(b, 1, 2, 3, 4, 5)
}
