package block_test

import (
	"bytes"
	"fmt"
	"math/rand"
	"slices"
	"testing"

	"pith/api"
	"pith/block"
	"pith/crc"
	"pith/head"
	"pith/lzma2"
	"pith/sha"
)

// bare: the configuration of the chapter's examples: no check, no Delta filter, raw chunks.
var bare = api.Config{Props: api.Props{LC: 3, PB: 2}, Dict: 4096, Block: 65536}

// kinds: of checks, those that are read here.
var kinds = []int{0, 1, 4, 10}

// modes: all of them.
var modes = []int{api.ModeRaw, api.ModeGreedy, api.ModeCheap}

// with: bare, but for these.
func with(kind, mode, delta int) api.Config {
	c := bare
	c.Check, c.Mode, c.Delta = kind, mode, delta
	return c
}

// shapes: each kind of a check with each mode, with and without a Delta filter.
func shapes() []api.Config {
	var all []api.Config
	for _, kind := range kinds {
		for _, mode := range modes {
			for _, delta := range []int{0, 1, 2, 256} {
				all = append(all, with(kind, mode, delta))
			}
		}
	}
	return all
}

// filter: of a number and its properties.
func filter(id uint64, props ...byte) api.Filter { return api.Filter{ID: id, Props: props} }

// lzma: LZMA2 with the byte that tells its dictionary.
func lzma(props byte) api.Filter { return filter(33, props) }

// apart: Delta with a distance.
func apart(dist int) api.Filter { return filter(3, byte(dist-1)) }

// join: byte strings one behind the other.
func join(l ...[]byte) []byte { return slices.Concat(l...) }

// noise: n bytes by chance.
func noise(seed int64, n int) []byte {
	b := make([]byte, n)
	rand.New(rand.NewSource(seed)).Read(b)
	return b
}

// text: n bytes that pack as they are.
func text(n int) []byte {
	var b []byte
	for len(b) < n {
		b = append(b, "a block has all that is needed to unpack it: "...)
		b = append(b, byte(len(b)), byte(len(b)/256))
	}
	return b[:n]
}

// slope: n bytes of two samples in turns, one that goes up and one that goes down; their differences pack.
func slope(n int) []byte {
	b := make([]byte, n)
	for i := range b {
		b[i] = byte(i / 2 * 3)
		if i%2 == 1 {
			b[i] = byte(200 - i)
		}
	}
	return b
}

// mixed: n bytes, the first half and what is over of noise, the other of text.
func mixed(n int) []byte { return join(noise(int64(n), n-n/2), text(n/2)) }

// dicts: what the bytes 0 to 40 tell, by doubling and by halves more.
func dicts() []int {
	var all []int
	for n := 4096; n < 1<<32; n *= 2 {
		all = append(all, n, n+n/2)
	}
	return append(all, 1<<32-1)
}

// leastByte: the least one that tells as much.
func leastByte(dict int) byte {
	return byte(slices.IndexFunc(dicts(), func(told int) bool { return told >= dict }))
}

// low: n bytes of v, the lowest first.
func low(v uint64, n int) []byte {
	var b []byte
	for range n {
		b = append(b, byte(v%256))
		v /= 256
	}
	return b
}

// sealed: the bytes, zeros up to a multiple of four, and the CRC-32 of both.
func sealed(b ...byte) []byte {
	b = bytes.Clone(b)
	for len(b)%4 != 0 {
		b = append(b, 0)
	}
	return append(b, low(uint64(crc.Sum32(b)), 4)...)
}

// plainHeader: of a configuration's filters: twelve bytes in any case.
func plainHeader(c api.Config) []byte {
	if c.Delta == 0 {
		return sealed(2, 0, 0x21, 1, leastByte(c.Dict), 0, 0, 0)
	}
	return sealed(2, 1, 3, 1, byte(c.Delta-1), 0x21, 1, leastByte(c.Dict))
}

// headed: a header with these sizes and filters, and with so many words of padding more.
func headed(t *testing.T, packed, size, pad int, l ...api.Filter) []byte {
	t.Helper()
	b, errno := head.Put(api.Head{Packed: packed, Size: size, Filters: l}, pad)
	if errno != api.OK {
		t.Fatalf("head.Put(%d, %d, %v, %d): error %d", packed, size, l, pad, errno)
	}
	return b
}

// differences: by the words of chapter 19; without a distance the bytes themselves.
func differences(x []byte, d int) []byte {
	y := bytes.Clone(x)
	for i := d; d > 0 && i < len(x); i++ {
		y[i] = x[i] - x[i-d]
	}
	return y
}

// sums: back.
func sums(y []byte, d int) []byte {
	x := bytes.Clone(y)
	for i := d; d > 0 && i < len(x); i++ {
		x[i] = y[i] + x[i-d]
	}
	return x
}

// checkOf: data's check, by the words of chapter 5.
func checkOf(kind int, data []byte) []byte {
	switch kind {
	case 1:
		return low(uint64(crc.Sum32(data)), 4)
	case 4:
		return low(crc.Sum64(data), 8)
	case 10:
		s := sha.Sum(data)
		return s[:]
	}
	return nil
}

// zerosTo: as few as make n a multiple of four.
func zerosTo(n int) []byte {
	var zeros []byte
	for (n+len(zeros))%4 != 0 {
		zeros = append(zeros, 0)
	}
	return zeros
}

// laid: a block of a header, a row and a check.
func laid(header, row, sum []byte) []byte {
	return join(header, row, zerosTo(len(header)+len(row)), sum)
}

// isLegal: by the document's words.
func isLegal(c api.Config) bool {
	p := c.Props
	return (c.Check == 0 || c.Check == 1 || c.Check == 4 || c.Check == 10) && c.Delta >= 0 && c.Delta <= 256 &&
		p.LC >= 0 && p.LC <= 4 && p.LP >= 0 && p.LP <= 4 && p.LC+p.LP <= 4 && p.PB >= 0 && p.PB <= 4 &&
		c.Dict >= 4096 && c.Dict <= 67108864 && c.Block >= 1 && c.Block <= 2147483648 && c.Mode >= 0 && c.Mode <= 2
}

// rowOf: the data's row of chunks.
func rowOf(t *testing.T, data []byte, c api.Config) []byte {
	t.Helper()
	row, errno := lzma2.Encode(differences(data, c.Delta), c)
	if errno != api.OK {
		t.Fatalf("lzma2.Encode(%d bytes, %+v): error %d", len(data), c, errno)
	}
	return row
}

// allKinds: a row of one chunk of each kind.
func allKinds(t *testing.T) []byte {
	t.Helper()
	props := api.Props{LC: 1, LP: 1, PB: 1}
	symbols := []api.Symbol{{Kind: api.SymLit, Byte: 7}, {Kind: api.SymMatch, Len: 5, Dist: 1}, {Kind: api.SymShort}, {Kind: api.SymRep, Len: 3}}
	row, errno := lzma2.Build(4096,
		api.Part{Kind: api.ChunkFirst, Raw: []byte("first")},
		api.Part{Kind: api.ChunkProps, Props: props, Symbols: symbols},
		api.Part{Kind: api.ChunkSame, Symbols: symbols},
		api.Part{Kind: api.ChunkRaw, Raw: []byte("raw")},
		api.Part{Kind: api.ChunkState, Symbols: symbols},
		api.Part{Kind: api.ChunkAll, Props: props, Symbols: symbols},
	)
	if errno != api.OK {
		t.Fatalf("Build: error %d", errno)
	}
	return row
}

// encodeByWords: Encode, sentence by sentence of P22.1.
func encodeByWords(t *testing.T, data []byte, c api.Config) ([]byte, api.Record, api.Errno) {
	t.Helper()
	if !isLegal(c) {
		return nil, api.Record{}, api.ErrConfig
	}
	if len(data) > c.Block {
		return nil, api.Record{}, api.ErrRange
	}
	row, sum := rowOf(t, data, c), checkOf(c.Check, data)
	return laid(plainHeader(c), row, sum), api.Record{Unpadded: 12 + len(row) + len(sum), Size: len(data)}, api.OK
}

// answer: of Decode.
type answer struct {
	data   []byte
	record api.Record
	n      int
	errno  api.Errno
}

// faultAt: an error at a place; all else is zero.
func faultAt(at int, errno api.Errno) answer { return answer{n: at, errno: errno} }

// chainByWords: what filters tell, by the words of chapter 20: a distance and a dictionary.
func chainByWords(l []api.Filter) (int, int, bool) {
	dist := 0
	if len(l) == 2 && l[0].ID == 3 && len(l[0].Props) == 1 {
		dist, l = int(l[0].Props[0])+1, l[1:]
	}
	if len(l) != 1 || l[0].ID != 33 || len(l[0].Props) != 1 || l[0].Props[0] > 40 {
		return 0, 0, false
	}
	return dist, dicts()[l[0].Props[0]], true
}

// decodeByWords: Decode, number by number of P22.2.
func decodeByWords(b []byte, kind, mem int) answer {
	if kind < 0 || kind > 15 {
		return faultAt(0, api.ErrConfig)
	}
	if !slices.Contains(kinds, kind) {
		return faultAt(0, api.ErrUnsupported)
	}
	if len(b) == 0 {
		return faultAt(0, api.ErrTruncated)
	}
	if b[0] == 0 {
		return faultAt(0, api.ErrFormat)
	}
	front := 4 * (int(b[0]) + 1)
	if len(b) < front {
		return faultAt(0, api.ErrTruncated)
	}
	h, errno := head.Get(b[:front])
	if errno != api.OK {
		return faultAt(0, errno)
	}
	dist, dict, read := chainByWords(h.Filters)
	if !read {
		return faultAt(0, api.ErrUnsupported)
	}
	if dict > mem {
		return faultAt(0, api.ErrMemLimit)
	}
	packed, n, errno := lzma2.Decode(b[front:], dict, h.Packed, h.Size)
	at := front + n
	if errno != api.OK {
		return faultAt(at, errno)
	}
	return endByWords(b, at, kind, sums(packed, dist))
}

// endByWords: the zeros and the check, behind header and row, which end at a place.
func endByWords(b []byte, at, kind int, data []byte) answer {
	zeros, sum := zerosTo(at), checkOf(kind, data)
	r := api.Record{Unpadded: at + len(sum), Size: len(data)}
	if len(b)-at < len(zeros) {
		return faultAt(at, api.ErrTruncated)
	}
	if !bytes.HasPrefix(b[at:], zeros) {
		return faultAt(at, api.ErrFormat)
	}
	at += len(zeros)
	if len(b)-at < len(sum) {
		return faultAt(at, api.ErrTruncated)
	}
	if !bytes.HasPrefix(b[at:], sum) {
		return faultAt(at, api.ErrCheck)
	}
	return answer{data, r, at + len(sum), api.OK}
}

// decoded: what Decode answers.
func decoded(b []byte, kind, mem int) answer {
	data, r, n, errno := block.Decode(b, kind, mem)
	return answer{data, r, n, errno}
}

// same: nil and empty data are the same.
func (a answer) same(b answer) bool {
	return bytes.Equal(a.data, b.data) && a.record == b.record && a.n == b.n && a.errno == b.errno
}

func (a answer) String() string {
	return fmt.Sprintf("%s, %+v, %d, error %d", shown(a.data), a.record, a.n, a.errno)
}

// made: a block of data, and its record, of a configuration that is legal.
func made(t *testing.T, data []byte, c api.Config) ([]byte, api.Record) {
	t.Helper()
	b, r, errno := block.Encode(data, c)
	if errno != api.OK {
		t.Fatalf("Encode(%d bytes, %+v): error %d", len(data), c, errno)
	}
	return b, r
}

// wantEncoded: just this block, and this record.
func wantEncoded(t *testing.T, data []byte, c api.Config, want []byte, record api.Record) {
	t.Helper()
	if b, r, errno := block.Encode(data, c); !bytes.Equal(b, want) || r != record || errno != api.OK {
		t.Errorf("Encode(%s, %+v): %s, %+v, error %d; want %s, %+v", shown(data), c, shown(b), r, errno, shown(want), record)
	}
}

// wantNotEncoded: refused so, and every other result is zero.
func wantNotEncoded(t *testing.T, data []byte, c api.Config, want api.Errno) {
	t.Helper()
	if b, r, errno := block.Encode(data, c); len(b) != 0 || r != (api.Record{}) || errno != want {
		t.Errorf("Encode(%s, %+v): %s, %+v, error %d; want error %d", shown(data), c, shown(b), r, errno, want)
	}
}

// wantEncodedByWords: what the words say; their error.
func wantEncodedByWords(t *testing.T, data []byte, c api.Config) api.Errno {
	t.Helper()
	b, r, errno := encodeByWords(t, data, c)
	if errno != api.OK {
		wantNotEncoded(t, data, c, errno)
	} else {
		wantEncoded(t, data, c, b, r)
	}
	return errno
}

// wantDecoded: just these data, this record, so many bytes.
func wantDecoded(t *testing.T, b []byte, kind, mem int, data []byte, record api.Record, n int) {
	t.Helper()
	want := answer{data, record, n, api.OK}
	if a := decoded(b, kind, mem); !a.same(want) {
		t.Errorf("Decode(%s, %d, %d): %s; want %s", shown(b), kind, mem, a, want)
	}
}

// wantFault: this error at this place, and every other result is zero.
func wantFault(t *testing.T, b []byte, kind, mem int, want api.Errno, at int) {
	t.Helper()
	if a := decoded(b, kind, mem); !a.same(faultAt(at, want)) {
		t.Errorf("Decode(%s, %d, %d): %s; want error %d at %d", shown(b), kind, mem, a, want, at)
	}
}

// wantDecodedByWords: what the words say.
func wantDecodedByWords(t *testing.T, b []byte, kind, mem int) answer {
	t.Helper()
	want := decodeByWords(b, kind, mem)
	if a := decoded(b, kind, mem); !a.same(want) {
		t.Errorf("Decode(%s, %d, %d): %s; want %s", shown(b), kind, mem, a, want)
	}
	return want
}

// shown: the front of bytes in base sixteen.
func shown(b []byte) string {
	s := fmt.Sprintf("% X", b[:min(40, len(b))])
	if len(b) > 40 {
		s += fmt.Sprintf(" .. (%d)", len(b))
	}
	return "[" + s + "]"
}

// turned: b with the bits of mask turned over in the byte at a place.
func turned(b []byte, at int, mask byte) []byte {
	other := bytes.Clone(b)
	other[at] ^= mask
	return other
}

// withRoom: b, and behind it room with other bytes in it.
func withRoom(b []byte) []byte {
	room := append(bytes.Clone(b), 0xAA, 0, 0xE0, 1, 0x21, 1, 0, 0x80, 0x7F)
	return room[:len(b):len(room)]
}

// spoil: all bytes, those of the spare room too; and then it is lengthened.
func spoil(b []byte) {
	for i := range b[:cap(b)] {
		b[:cap(b)][i] ^= 0xFF
	}
	_ = append(b, 1, 2, 3, 4, 5)
}
