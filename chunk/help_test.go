package chunk_test

import (
	"math"
	"testing"

	"pith/api"
	"pith/chunk"
)

// noKinds: numbers that are no kind, the edges first.
var noKinds = []int{-1, 7, -2, -7, 8, 9, 13, 128, 224, 255, 256, 257, 1 << 32, 1<<32 + 6, -1 << 32, -1<<32 + 3, math.MinInt, math.MinInt + 1, math.MaxInt - 6, math.MaxInt}

// sizes: the edges of all sizes, and numbers that are none.
var sizes = []int{
	0, 1, 2, 3, 255, 256, 257, 32767, 32768, 65535, 65536, 65537, 65538, 131071, 131072, 131073, 196608, 1048576, 2031616, 2031617, 2097151, 2097152, 2097153, 2097154,
	-1, -2, -65535, -65536, -2097152, 1 << 31, 1 << 32, 1<<32 + 1, -1 << 32, -1<<32 + 1, math.MinInt, math.MinInt + 1, math.MaxInt - 1, math.MaxInt,
}

// someProps: properties that are allowed, the edges among them.
var someProps = []api.Props{{}, {LC: 3, PB: 2}, {LC: 4}, {LP: 4, PB: 4}, {LC: 4, PB: 4}, {LC: 2, LP: 2, PB: 1}, {LC: 1, LP: 3, PB: 3}}

// noProps: properties that are not.
var noProps = []api.Props{
	{LC: 5}, {LP: 5}, {PB: 5}, {LC: 1, LP: 4}, {LC: 4, LP: 1}, {LC: 4, LP: 4}, {LC: -1}, {LP: -1}, {PB: -1}, {LC: -1, LP: 5}, {LC: 5, LP: -1}, {LC: 8},
	{LC: math.MaxInt, LP: 1}, {LC: math.MinInt, LP: math.MinInt}, {PB: math.MaxInt}, {PB: math.MinInt}, {LC: 1 << 32}, {LP: 1<<32 + 1},
}

// usual: the properties of the chapter's examples.
var usual = api.Props{LC: 3, PB: 2}

// names: of the kinds, for what a test tells.
var names = []string{"ChunkEnd", "ChunkFirst", "ChunkRaw", "ChunkSame", "ChunkState", "ChunkProps", "ChunkAll"}

func isRaw(kind int) bool { return kind == api.ChunkFirst || kind == api.ChunkRaw }

func isPacked(kind int) bool { return kind >= api.ChunkSame && kind <= api.ChunkAll }

func hasProps(kind int) bool { return kind == api.ChunkProps || kind == api.ChunkAll }

func isAllowed(p api.Props) bool {
	least, most := min(p.LC, p.LP, p.PB), max(p.LC, p.LP, p.PB)
	return least >= 0 && most <= 4 && p.LC+p.LP <= 4
}

// putByWords: Put, sentence by sentence of P17.1 and of the chapter's words.
func putByWords(c api.Chunk) ([]byte, api.Errno) {
	if c.Kind < 0 || c.Kind > 6 {
		return nil, api.ErrConfig
	}
	if c.Kind == 0 && (c.Size != 0 || c.Packed != 0) {
		return nil, api.ErrRange
	}
	if isRaw(c.Kind) && (c.Size < 1 || c.Size > 65536 || c.Packed != c.Size) {
		return nil, api.ErrRange
	}
	if isPacked(c.Kind) && (c.Size < 1 || c.Size > 2097152 || c.Packed < 1 || c.Packed > 65536) {
		return nil, api.ErrRange
	}
	if hasProps(c.Kind) && !isAllowed(c.Props) {
		return nil, api.ErrConfig
	}
	size, packed := c.Size-1, c.Packed-1
	switch {
	case c.Kind == 0:
		return []byte{0}, api.OK
	case isRaw(c.Kind):
		return []byte{byte(c.Kind), byte(size / 256), byte(size % 256)}, api.OK
	}
	b := []byte{byte(128 + 32*(c.Kind-3) + size/65536), byte(size % 65536 / 256), byte(size % 256), byte(packed / 256), byte(packed % 256)}
	if hasProps(c.Kind) {
		b = append(b, byte((c.Props.PB*5+c.Props.LP)*9+c.Props.LC))
	}
	return b, api.OK
}

// getByWords: Get, sentence by sentence of P17.2.
func getByWords(b []byte) (api.Chunk, int, api.Errno) {
	if len(b) == 0 {
		return api.Chunk{}, 0, api.ErrTruncated
	}
	first := int(b[0])
	if first >= 3 && first <= 127 {
		return api.Chunk{}, 0, api.ErrFormat
	}
	kind, n := first, 3
	if first == 0 {
		return api.Chunk{}, 1, api.OK
	}
	if first >= 128 {
		kind, n = 3+(first-128)/32, 5
	}
	if hasProps(kind) {
		n = 6
	}
	if len(b) < n {
		return api.Chunk{}, 0, api.ErrTruncated
	}
	c := api.Chunk{Kind: kind, Size: 256*int(b[1]) + int(b[2]) + 1}
	if c.Packed = c.Size; first >= 128 {
		c.Size += (first - 128) % 32 * 65536
		c.Packed = 256*int(b[3]) + int(b[4]) + 1
	}
	if hasProps(kind) {
		last := int(b[5])
		c.Props = api.Props{LC: last % 9, LP: last / 9 % 5, PB: last / 45}
		if !isAllowed(c.Props) {
			return api.Chunk{}, 0, api.ErrFormat
		}
	}
	return c, n, api.OK
}

// rowByWords: what came in a row, as P17.4 asks of it.
type rowByWords struct {
	ended, begun, props bool
}

// next: Next, sentence by sentence.
func (r *rowByWords) next(kind int) api.Errno {
	if kind < 0 || kind > 6 {
		return api.ErrConfig
	}
	if r.ended {
		return api.ErrFormat
	}
	if kind != api.ChunkEnd && kind != api.ChunkFirst && kind != api.ChunkAll && !r.begun {
		return api.ErrFormat
	}
	if (kind == api.ChunkSame || kind == api.ChunkState) && !r.props {
		return api.ErrFormat
	}
	r.ended = kind == api.ChunkEnd
	r.begun = r.begun || kind == api.ChunkFirst || kind == api.ChunkAll
	r.props = kind != api.ChunkFirst && (r.props || hasProps(kind))
	return api.OK
}

// wantPut: these bytes come of the chunk.
func wantPut(t *testing.T, c api.Chunk, want ...byte) {
	t.Helper()
	if b, errno := chunk.Put(c); string(b) != string(want) || errno != api.OK {
		t.Errorf("Put(%+v): % X, error %d; want % X", c, b, errno, want)
	}
}

// wantNoPut: the chunk is refused so.
func wantNoPut(t *testing.T, c api.Chunk, want api.Errno) {
	t.Helper()
	if b, errno := chunk.Put(c); len(b) != 0 || errno != want {
		t.Errorf("Put(%+v): % X, error %d; want error %d", c, b, errno, want)
	}
}

// wantGet: this chunk comes of the bytes, of which n are its head.
func wantGet(t *testing.T, b []byte, want api.Chunk, n int) {
	t.Helper()
	if c, m, errno := chunk.Get(b); c != want || m != n || errno != api.OK {
		t.Errorf("Get(% X): %+v, %d, error %d; want %+v, %d", b, c, m, errno, want, n)
	}
}

// wantNoGet: the bytes are refused so.
func wantNoGet(t *testing.T, b []byte, want api.Errno) {
	t.Helper()
	if c, n, errno := chunk.Get(b); c != (api.Chunk{}) || n != 0 || errno != want {
		t.Errorf("Get(% X): %+v, %d, error %d; want error %d", b, c, n, errno, want)
	}
}

// wantNext: of a row, kind by kind, these errors; and what Ended tells.
func wantNext(t *testing.T, o *chunk.Order, kind int, want api.Errno, ended bool) {
	t.Helper()
	if errno := o.Next(kind); errno != want || o.Ended() != ended {
		t.Errorf("Next(%d): error %d, ended %v; want error %d, %v", kind, errno, o.Ended(), want, ended)
	}
}

// heads: chunks of every kind at their edges, all right ones.
func heads() []api.Chunk {
	all := []api.Chunk{{}}
	for kind := api.ChunkFirst; kind <= api.ChunkAll; kind++ {
		for _, size := range sizes {
			for _, packed := range sizes {
				c := api.Chunk{Kind: kind, Size: size, Packed: packed}
				if hasProps(kind) {
					c.Props = someProps[(size&0xff+packed&0xff)%len(someProps)]
				}
				if _, errno := putByWords(c); errno == api.OK {
					all = append(all, c)
				}
			}
		}
	}
	return all
}
