package lzma2

import (
	"pith/api"
	"pith/chunk"
)

// untold: in the place of a size that is not told.
const untold = -1

// sizes: what is told of a row ahead of reading it.
type sizes struct {
	packed, plain int
}

// reader: goes through a row, chunk by chunk.
type reader struct {
	b     []byte
	told  sizes
	order *chunk.Order
	at    int // where the next chunk begins
	plain int // how many plain bytes the chunks so far have
}

// read: hands each chunk of the row but the end, its head and its bytes, to take, which says whether they are right; answers how many bytes the row has, or the place of the fault and its error.
func read(b []byte, told sizes, take func(c api.Chunk, body []byte) bool) (int, api.Errno) {
	r := &reader{b: b, told: told, order: chunk.NewOrder()}
	for {
		c, n, errno := r.head()
		if errno != api.OK {
			return r.at, errno
		}
		from, to := r.at+n, r.at+n+c.Packed
		switch {
		case c.Kind == api.ChunkEnd:
			return from, api.OK
		case to > len(b):
			return from, api.ErrTruncated
		case !take(c, b[from:to]):
			return from, api.ErrFormat
		}
		r.at, r.plain = to, r.plain+c.Size
	}
}

// head: of the chunk at the place, and how many bytes it has.
func (r *reader) head() (api.Chunk, int, api.Errno) {
	if errno := r.first(); errno != api.OK {
		return api.Chunk{}, 0, errno
	}
	c, n, errno := chunk.Get(r.b[r.at:])
	if errno != api.OK {
		return api.Chunk{}, 0, errno
	}
	if !r.within(c, r.at+n+c.Packed) {
		return api.Chunk{}, 0, api.ErrFormat
	}
	return c, n, api.OK
}

// first: what is wrong with the head's first byte, which counts ahead of whether the others are there.
func (r *reader) first() api.Errno {
	switch {
	case r.told.packed != untold && r.at >= r.told.packed:
		return api.ErrFormat
	case r.at >= len(r.b):
		return api.ErrTruncated
	}
	// With zeros behind it every first byte makes a whole head, if it makes any: so its kind is told before the rest is there.
	c, _, errno := chunk.Get([]byte{r.b[r.at], 0, 0, 0, 0, 0})
	if errno != api.OK {
		return errno
	}
	return r.order.Next(c.Kind)
}

// within: does a chunk that ends there keep to what is told? The end must be just there.
func (r *reader) within(c api.Chunk, end int) bool {
	packed, plain := r.told.packed-end, r.told.plain-(r.plain+c.Size)
	if c.Kind == api.ChunkEnd {
		return (r.told.packed == untold || packed == 0) && (r.told.plain == untold || plain == 0)
	}
	return (r.told.packed == untold || packed >= 0) && (r.told.plain == untold || plain >= 0)
}
