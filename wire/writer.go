package wire

import "pith/api"

// Writer: takes bytes.
type Writer struct {
	counter
	bytes []byte
}

// NewWriter: without bytes.
func NewWriter() *Writer { return &Writer{} }

// Low: a number's n lowest bytes, the lowest first.
func (w *Writer) Low(v uint64, n int) api.Errno {
	if !isWidth(n) {
		return api.ErrConfig
	}
	for i := range n {
		w.Put(byte(v >> (8 * i)))
	}
	return api.OK
}

// High: a number's n lowest bytes, the highest of them first.
func (w *Writer) High(v uint64, n int) api.Errno {
	if !isWidth(n) {
		return api.ErrConfig
	}
	for i := range n {
		w.Put(byte(v >> (8 * (n - 1 - i))))
	}
	return api.OK
}

// Put: some bytes.
func (w *Writer) Put(b ...byte) {
	w.bytes = append(w.bytes, b...)
	w.pass(len(b))
}

// Zeros: n zeros.
func (w *Writer) Zeros(n int) api.Errno {
	if n < 0 || n > maxZeros {
		return api.ErrRange
	}
	w.Put(make([]byte, n)...)
	return api.OK
}

// Len: how many bytes there are.
func (w *Writer) Len() int { return w.gone }

// Bytes: the bytes.
func (w *Writer) Bytes() []byte { return fresh(w.bytes) }
