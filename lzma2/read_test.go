package lzma2_test

import (
	"math"
	"slices"
	"testing"

	"pith/api"
	"pith/lzma2"
)

// abc: the row of the chapter's example, and a byte behind it.
var abc = []byte{1, 0, 2, 'a', 'b', 'c', 0, 0xFF}

// zero: the row of one packed byte 0.
var zero = []byte{0xE0, 0, 0, 0, 5, 0x5D, 0, 0, 0, 0, 0, 0, 0}

// P18.2: the chapter's examples.
func TestDecodeOfExamples(t *testing.T) {
	wantRead(t, []byte{0}, 4096, -1, -1, nil, 1)
	wantRead(t, abc, 4096, -1, -1, []byte("abc"), 7)
	wantRead(t, abc, 4096, 7, 3, []byte("abc"), 7)
	wantFault(t, abc, 4096, 6, -1, api.ErrFormat, 6)
	wantFault(t, abc, 4096, -1, 2, api.ErrFormat, 0)
	wantFault(t, abc, 4096, 8, -1, api.ErrFormat, 6)
	wantFault(t, abc, 4096, -1, 4, api.ErrFormat, 6)
	for n, at := range []int{0, 0, 0, 3, 3, 3, 6} {
		wantFault(t, abc[:n], 4096, -1, -1, api.ErrTruncated, at)
	}
	wantFault(t, []byte{2, 0, 0, 'a', 0}, 4096, -1, -1, api.ErrFormat, 0)
	wantFault(t, []byte{3}, 4096, -1, -1, api.ErrFormat, 0)
	wantFault(t, []byte{0x80}, 4096, -1, -1, api.ErrFormat, 0)
	wantFault(t, []byte{0x80, 0, 0, 0, 0, 0}, 4096, -1, -1, api.ErrFormat, 0)
	wantFault(t, []byte{1, 0, 0, 'a', 0xA0, 0, 0, 0, 0, 0}, 4096, -1, -1, api.ErrFormat, 4)
	wantFault(t, []byte{0xE0, 0, 0, 0, 5, 0xE1, 0, 0}, 4096, -1, -1, api.ErrFormat, 0)
	wantFault(t, []byte{0xE0, 0, 0, 0}, 4096, -1, -1, api.ErrTruncated, 0)
	wantRead(t, zero, 4096, -1, -1, []byte{0}, 13)
	odd := slices.Clone(zero)
	odd[6] = 1
	wantFault(t, odd, 4096, -1, -1, api.ErrFormat, 6)
	wantFault(t, []byte{0}, 0, -1, -1, api.ErrRange, 0)
	wantFault(t, []byte{0}, 1, -2, 0, api.ErrRange, 0)
}

// P18.2: what is out of range is refused ahead of all else, with the place 0.
func TestDecodeRefuses(t *testing.T) {
	for _, b := range [][]byte{nil, {0}, {3}, abc, abc[:4], zero} {
		for _, dict := range noDicts {
			wantFault(t, b, dict, -1, -1, api.ErrRange, 0)
			wantFault(t, b, dict, 7, 3, api.ErrRange, 0)
			if l, errno := lzma2.Symbols(b, dict); len(l) > 0 || errno != api.ErrRange {
				t.Errorf("Symbols(%s, %d): %v, error %d", shown(b), dict, l, errno)
			}
		}
		for _, told := range []int{-2, -3, -100, math.MinInt} {
			wantFault(t, b, 4096, told, -1, api.ErrRange, 0)
			wantFault(t, b, 4096, -1, told, api.ErrRange, 0)
			wantFault(t, b, 4096, told, told, api.ErrRange, 0)
		}
	}
	for _, dict := range []int{1, 2, 4095, api.MaxTold - 1, api.MaxTold} {
		wantRead(t, abc, dict, -1, -1, []byte("abc"), 7)
		wantRead(t, zero, dict, 13, 1, []byte{0}, 13)
	}
}

// front: a row without an end, behind which a chunk may come: what it means, whether the dictionary is begun, whether properties are told.
type front struct {
	row   []byte
	plain string
	begun bool
	props bool
}

// fronts: rows that differ in what may follow.
func fronts(t *testing.T) []front {
	t.Helper()
	var all []front
	for _, f := range []struct {
		parts        []api.Part
		plain        string
		begun, props bool
	}{
		{nil, "", false, false},
		{[]api.Part{rawPart(1, "ab")}, "ab", true, false},
		{[]api.Part{rawPart(1, "ab"), rawPart(2, "c")}, "abc", true, false},
		{[]api.Part{packedPart(6, lit('x'), rep(3, 0))}, "xxxx", true, true},
		{[]api.Part{packedPart(6, lit('x')), rawPart(2, "yz")}, "xyz", true, true},
		{[]api.Part{packedPart(6, lit('x')), rawPart(1, "yz")}, "xyz", true, false},
		{[]api.Part{rawPart(1, "ab"), packedPart(5, match(2, 2)), packedPart(3, short()), packedPart(4, lit('q'))}, "ababaq", true, true},
	} {
		row := built(t, 4096, f.parts...)
		all = append(all, front{row[:len(row)-1], f.plain, f.begun, f.props})
	}
	return all
}

// allows: may a chunk of the kind follow?
func (f front) allows(kind int) bool {
	switch kind {
	case api.ChunkEnd, api.ChunkFirst, api.ChunkAll:
		return true
	case api.ChunkSame, api.ChunkState:
		return f.props
	}
	return f.begun
}

// P18.2: of all first bytes, at the front and behind other chunks, some are refused at once, before the rest of the head is there; of the others the rest is missed.
func TestFirstBytes(t *testing.T) {
	for _, f := range fronts(t) {
		at := len(f.row)
		for first := range 256 {
			kind := first
			if first >= 128 {
				kind = 3 + (first-128)/32
			}
			b := append(slices.Clone(f.row), byte(first))
			switch {
			case first > 2 && first < 128 || !f.allows(kind):
				for _, behind := range [][]byte{nil, {0}, {0, 0, 0, 5, 0xFF, 0}} {
					wantFault(t, join(b, behind), 4096, -1, -1, api.ErrFormat, at)
					wantFault(t, join(b, behind), 4096, at+1, len(f.plain), api.ErrFormat, at)
				}
			case first == 0:
				wantRead(t, b, 4096, -1, -1, []byte(f.plain), at+1)
			default:
				wantFault(t, b, 4096, -1, -1, api.ErrTruncated, at)
			}
		}
	}
}

// P18.2: where packed bytes are told, and none is left for a chunk, that comes ahead of all that is wrong there, also of a byte that is missing.
func TestNoByteLeftForAChunk(t *testing.T) {
	for _, f := range fronts(t) {
		at := len(f.row)
		for _, behind := range [][]byte{nil, {0}, {3}, {0x80}, {1, 0, 0, 'a', 0}, {2}} {
			wantFault(t, join(f.row, behind), 4096, at, -1, api.ErrFormat, at)
			wantFault(t, join(f.row, behind), 4096, at, len(f.plain), api.ErrFormat, at)
		}
		wantFault(t, f.row, 4096, -1, -1, api.ErrTruncated, at)
		wantFault(t, f.row, 4096, at+1, -1, api.ErrTruncated, at)
		wantFault(t, f.row, 4096, at+1, len(f.plain), api.ErrTruncated, at)
		wantFault(t, f.row, 4096, at+1, len(f.plain)+1, api.ErrTruncated, at)
	}
}

// P18.2: an end that comes where a told size says otherwise is a fault at its byte.
func TestEndWhereNoneIsTold(t *testing.T) {
	for _, f := range fronts(t) {
		at, n := len(f.row), len(f.plain)
		for _, behind := range [][]byte{nil, {0}, {0xFF, 1, 2, 3}} {
			b := join(f.row, []byte{0}, behind)
			wantRead(t, b, 4096, at+1, n, []byte(f.plain), at+1)
			wantFault(t, b, 4096, at+2, n, api.ErrFormat, at)
			wantFault(t, b, 4096, at+2, -1, api.ErrFormat, at)
			wantFault(t, b, 4096, math.MaxInt, -1, api.ErrFormat, at)
			wantFault(t, b, 4096, at+1, n+1, api.ErrFormat, at)
			wantFault(t, b, 4096, -1, n+1, api.ErrFormat, at)
			wantFault(t, b, 4096, -1, math.MaxInt, api.ErrFormat, at)
		}
	}
}

// chunkBehind: a chunk that may follow, how many bytes its head has and how many plain ones it makes.
type chunkBehind struct {
	bytes      []byte
	head, size int
}

// behind: chunks of the kinds that may follow the front.
func (f front) behind() []chunkBehind {
	all := []chunkBehind{
		{[]byte{1, 0, 3, 'a', 'b', 'c', 'd'}, 3, 4},
		{join([]byte{0xE0, 0, 0, 0, 5, 0x5D}, make([]byte, 6)), 6, 1},
	}
	if f.begun {
		all = append(all, chunkBehind{[]byte{2, 0, 1, 'a', 'b'}, 3, 2}, chunkBehind{join([]byte{0xC0, 0, 0, 0, 5, 0}, make([]byte, 6)), 6, 1})
	}
	if f.props {
		all = append(all, chunkBehind{join([]byte{0xA0, 0, 0, 0, 5}, make([]byte, 6)), 5, 1})
	}
	return all
}

// P18.2: a head that is cut off at each of its bytes is missed at the chunk's first byte, also if what is told would be overstepped; bytes that are cut off are missed at their first one.
func TestCutChunks(t *testing.T) {
	for _, f := range fronts(t) {
		at, n := len(f.row), len(f.plain)
		for _, c := range f.behind() {
			whole := join(f.row, c.bytes, []byte{0})
			end := at + len(c.bytes)
			d, m, errno := lzma2.Decode(whole, 4096, -1, -1)
			if len(d) != n+c.size || m != end+1 || errno != api.OK {
				t.Fatalf("%s: %d bytes, %d, error %d", shown(whole), len(d), m, errno)
			}
			for k := range c.head {
				wantFault(t, whole[:at+k], 4096, -1, -1, api.ErrTruncated, at)
				wantFault(t, whole[:at+k], 4096, at+1, n, api.ErrTruncated, at)
				wantFault(t, whole[:at+k], 4096, end+1, n+c.size, api.ErrTruncated, at)
			}
			for k := at + c.head; k < end; k++ {
				wantFault(t, whole[:k], 4096, -1, -1, api.ErrTruncated, at+c.head)
				wantFault(t, whole[:k], 4096, end+1, n+c.size, api.ErrTruncated, at+c.head)
				wantFault(t, whole[:k], 4096, end, n+c.size, api.ErrTruncated, at+c.head)
			}
		}
	}
}

// P18.2: a chunk that goes beyond what is told is a fault at its first byte as soon as its head is whole, ahead of bytes that are missing; a chunk that ends just there is none.
func TestChunksBeyondWhatIsTold(t *testing.T) {
	for _, f := range fronts(t) {
		at, n := len(f.row), len(f.plain)
		for _, c := range f.behind() {
			whole := join(f.row, c.bytes, []byte{0, 0xFF})
			end := at + len(c.bytes)
			for k := at + c.head; k <= len(whole); k++ {
				for told := at + 1; told < end; told++ {
					wantFault(t, whole[:k], 4096, told, -1, api.ErrFormat, at)
					wantFault(t, whole[:k], 4096, told, n+c.size, api.ErrFormat, at)
				}
				for told := n; told < n+c.size; told++ {
					wantFault(t, whole[:k], 4096, -1, told, api.ErrFormat, at)
					wantFault(t, whole[:k], 4096, end+1, told, api.ErrFormat, at)
				}
			}
			wantFault(t, whole, 4096, end, n+c.size, api.ErrFormat, end)
			wantFault(t, whole, 4096, end+2, n+c.size, api.ErrFormat, end)
			wantFault(t, whole, 4096, end+1, n+c.size+1, api.ErrFormat, end)
			if d, m, errno := lzma2.Decode(whole, 4096, end+1, n+c.size); len(d) != n+c.size || m != end+1 || errno != api.OK {
				t.Errorf("%s: %d bytes, %d, error %d", shown(whole), len(d), m, errno)
			}
		}
	}
}

// P18.2: a byte of no properties is a fault at the chunk's first byte, once it is there, ahead of bytes that are missing.
func TestBytesOfNoProperties(t *testing.T) {
	for _, f := range fronts(t) {
		for _, first := range []byte{0xC0, 0xDF, 0xE0, 0xFF} {
			if first < 0xE0 && !f.begun {
				continue
			}
			at := len(f.row)
			for last := range 256 {
				head := []byte{first, 0, 0, 0, 5, byte(last)}
				lc, lp, pb := last%9, last/9%5, last/45
				if lc+lp <= 4 && pb <= 4 {
					wantFault(t, join(f.row, head), 4096, -1, -1, api.ErrTruncated, at+6)
					continue
				}
				for _, behind := range [][]byte{nil, {0}, make([]byte, 10)} {
					wantFault(t, join(f.row, head, behind), 4096, -1, -1, api.ErrFormat, at)
				}
				wantFault(t, join(f.row, head[:5]), 4096, -1, -1, api.ErrTruncated, at)
			}
		}
	}
}

// P18.2: bytes behind the row are not looked at, whatever they are.
func TestBytesBehindTheRow(t *testing.T) {
	for _, f := range fronts(t) {
		for _, behind := range [][]byte{{0}, {3}, {0x80}, {0xFF}, {2, 0, 0, 'x', 0}, noise(1, 300), make([]byte, 1000)} {
			b := join(f.row, []byte{0}, behind)
			n := len(f.row) + 1
			wantRead(t, b, 4096, -1, -1, []byte(f.plain), n)
			wantRead(t, b, 4096, n, len(f.plain), []byte(f.plain), n)
			if l, m, errno := lzma2.Chunks(b); m != n || errno != api.OK || l[len(l)-1] != (api.Chunk{}) {
				t.Errorf("Chunks(%s): %+v, %d, error %d", shown(b), l, m, errno)
			}
		}
	}
}
