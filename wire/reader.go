package wire

import "pith/api"

// Reader: goes through bytes.
type Reader struct {
	counter
	bytes []byte
}

// NewReader: at the front of b.
func NewReader(b []byte) *Reader {
	return &Reader{bytes: fresh(b)}
}

// Off: how many bytes are read.
func (r *Reader) Off() int { return r.gone }

// Left: how many are left.
func (r *Reader) Left() int { return len(r.bytes) - r.gone }

// peek: the next n bytes as they lie in the reader, none of them read yet.
func (r *Reader) peek(n int) ([]byte, api.Errno) {
	if n < 0 {
		return nil, api.ErrRange
	}
	// Held against what is left: a sum with the place could wrap.
	if n > r.Left() {
		return nil, api.ErrTruncated
	}
	return r.bytes[r.gone:][:n], api.OK
}

// next: likewise, but they are read.
func (r *Reader) next(n int) ([]byte, api.Errno) {
	b, e := r.peek(n)
	r.pass(len(b))
	return b, e
}

// number: the bytes of a number of n bytes, which are read.
func (r *Reader) number(n int) ([]byte, api.Errno) {
	if !isWidth(n) {
		return nil, api.ErrConfig
	}
	return r.next(n)
}

// U8: the next byte.
func (r *Reader) U8() (int, api.Errno) {
	b, e := r.next(1)
	if e != api.OK {
		return 0, e
	}
	return int(b[0]), api.OK
}

// Low: a number of n bytes (1 to 8), the lowest first.
func (r *Reader) Low(n int) (uint64, api.Errno) {
	b, e := r.number(n)
	v := uint64(0)
	for i, x := range b {
		v |= uint64(x) << (8 * i)
	}
	return v, e
}

// High: a number of n bytes (1 to 8), the highest first.
func (r *Reader) High(n int) (uint64, api.Errno) {
	b, e := r.number(n)
	v := uint64(0)
	for _, x := range b {
		v = v<<8 | uint64(x)
	}
	return v, e
}

// Take: the next n bytes.
func (r *Reader) Take(n int) ([]byte, api.Errno) {
	b, e := r.next(n)
	if e != api.OK {
		return nil, e
	}
	return fresh(b), api.OK
}

// Zeros: the next n bytes are all zero.
func (r *Reader) Zeros(n int) api.Errno {
	b, e := r.peek(n)
	if e != api.OK {
		return e
	}
	for _, x := range b {
		if x != 0 {
			return api.ErrFormat
		}
	}
	r.pass(n)
	return api.OK
}
