package wire_test

import (
	"bytes"
	"math"
	"testing"

	"pith/api"
	"pith/wire"
)

// P1.1
func TestNewWriterIsEmpty(t *testing.T) {
	wantWritten(t, "NewWriter", wire.NewWriter())
}

// P1.1, P1.2: the chapter's table.
func TestWriterExamples(t *testing.T) {
	w := wire.NewWriter()
	wantCode(t, "Low(258, 2)", w.Low(258, 2), api.OK)
	wantCode(t, "High(258, 2)", w.High(258, 2), api.OK)
	wantWritten(t, "both", w, 2, 1, 1, 2)
	wantCode(t, "Low(258, 1)", w.Low(258, 1), api.OK)
	wantCode(t, "High(258, 1)", w.High(258, 1), api.OK)
	wantWritten(t, "two bytes more", w, 2, 1, 1, 2, 2, 2)
	wantCode(t, "Low(1, 0)", w.Low(1, 0), api.ErrConfig)
	wantCode(t, "High(1, 9)", w.High(1, 9), api.ErrConfig)
	wantCode(t, "Low(1, -1)", w.Low(1, -1), api.ErrConfig)
	wantWritten(t, "no width", w, 2, 1, 1, 2, 2, 2)
	wantCode(t, "Zeros(3)", w.Zeros(3), api.OK)
	wantCode(t, "Zeros(0)", w.Zeros(0), api.OK)
	wantCode(t, "Zeros(-1)", w.Zeros(-1), api.ErrRange)
	wantCode(t, "Zeros(65537)", w.Zeros(65537), api.ErrRange)
	w.Put(9, 8)
	wantWritten(t, "all", w, 2, 1, 1, 2, 2, 2, 0, 0, 0, 9, 8)

	x := wire.NewWriter()
	wantCode(t, "High(2^64-1, 8)", x.High(1<<64-1, 8), api.OK)
	wantCode(t, "Low(2^63, 8)", x.Low(1<<63, 8), api.OK)
	wantWritten(t, "eight bytes", x, 255, 255, 255, 255, 255, 255, 255, 255, 0, 0, 0, 0, 0, 0, 0, 128)
}

// P1.1: every width, behind what is there.
func TestWriterNumbers(t *testing.T) {
	for _, v := range someNumbers {
		for n := 1; n <= 8; n++ {
			low := lowBytes(v, n)
			w := wire.NewWriter()
			w.Put(77)
			wantCode(t, "Low", w.Low(v, n), api.OK)
			wantWritten(t, "Low", w, append([]byte{77}, low...)...)

			x := wire.NewWriter()
			x.Put(77)
			wantCode(t, "High", x.High(v, n), api.OK)
			wantWritten(t, "High", x, append([]byte{77}, turned(low)...)...)
		}
	}
}

// P1.1: what is no width is told, writes nothing, and does not stay.
func TestWriterNoWidths(t *testing.T) {
	w := wire.NewWriter()
	for _, n := range noWidths {
		wantCode(t, "Low into no bytes", w.Low(1, n), api.ErrConfig)
		wantCode(t, "High into no bytes", w.High(1, n), api.ErrConfig)
	}
	wantWritten(t, "still none", w)
	w.Put(5)
	for _, n := range noWidths {
		wantCode(t, "Low", w.Low(1<<64-1, n), api.ErrConfig)
		wantCode(t, "High", w.High(1<<64-1, n), api.ErrConfig)
	}
	wantWritten(t, "as before", w, 5)
	wantCode(t, "Low behind errors", w.Low(6, 1), api.OK)
	wantCode(t, "High behind errors", w.High(7, 1), api.OK)
	wantWritten(t, "asked anew", w, 5, 6, 7)
}

// P1.1
func TestWriterPut(t *testing.T) {
	w := wire.NewWriter()
	w.Put()
	w.Put(nil...)
	w.Put([]byte{}...)
	wantWritten(t, "Put of none", w)
	w.Put(0)
	w.Put(255, 1, 0)
	w.Put()
	wantWritten(t, "Put of some", w, 0, 255, 1, 0)
	all := count(1000)
	w.Put(all...)
	wantWritten(t, "Put of many", w, append([]byte{0, 255, 1, 0}, all...)...)
}

// P1.1: 0, 65536 and what lies beside them.
func TestWriterZeros(t *testing.T) {
	for _, n := range []int{0, 1, 2, 3, 4, 255, 256, 65535, 65536} {
		w := wire.NewWriter()
		w.Put(7)
		wantCode(t, "Zeros", w.Zeros(n), api.OK)
		w.Put(8)
		want := append([]byte{7}, make([]byte, n)...)
		if want = append(want, 8); !bytes.Equal(w.Bytes(), want) || w.Len() != n+2 {
			t.Errorf("Zeros(%d): %d bytes, Len %d", n, len(w.Bytes()), w.Len())
		}
	}
}

// P1.1: too many or too few are told, write nothing, and do not stay.
func TestWriterZerosOutOfRange(t *testing.T) {
	w := wire.NewWriter()
	w.Put(7)
	for _, n := range append([]int{65537, 65538, 1 << 31, 1 << 32, 1<<32 + 1, math.MaxInt}, belowZero...) {
		wantCode(t, "Zeros", w.Zeros(n), api.ErrRange)
		wantWritten(t, "Zeros out of range", w, 7)
	}
	wantCode(t, "Zeros behind errors", w.Zeros(1), api.OK)
	wantWritten(t, "asked anew", w, 7, 0)
}

// P1.2: what is answered is new memory each time, spare room too.
func TestWriterBytesAreNew(t *testing.T) {
	w := wire.NewWriter()
	w.Put(1, 2, 3)
	a, b := w.Bytes(), w.Bytes()
	a[0] = 99
	_ = append(a, 98, 97)
	spoil(a)
	wantBytes(t, "the other answer", b, 1, 2, 3)
	wantWritten(t, "the writer", w, 1, 2, 3)
	w.Put(4)
	w.Zeros(1)
	wantWritten(t, "written on", w, 1, 2, 3, 4, 0)
	wantBytes(t, "an earlier answer", b, 1, 2, 3)
	_ = append(b, 55, 55)
	spoil(b)
	wantWritten(t, "the writer again", w, 1, 2, 3, 4, 0)
}

// spoil: the list and all its spare room become 55.
func spoil(b []byte) {
	b = b[:cap(b)]
	for i := range b {
		b[i] = 55
	}
}

// P1.2: asking changes nothing.
func TestWriterAskedOften(t *testing.T) {
	w := wire.NewWriter()
	w.High(0x0102, 2)
	for range 5 {
		wantWritten(t, "asked again", w, 1, 2)
	}
	w.Low(3, 1)
	wantWritten(t, "and written on", w, 1, 2, 3)
}
