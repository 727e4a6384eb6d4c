package wire_test

import (
	"bytes"
	"math"
	"testing"

	"pith/api"
	"pith/wire"
)

// noWidths: numbers of bytes that no number has, the edges first.
var noWidths = []int{0, 9, -1, 10, 64, -8, 65536, math.MaxInt, math.MinInt, math.MaxInt - 7, math.MinInt + 8}

// belowZero: counts that are none.
var belowZero = []int{-1, -2, -4, -65536, math.MinInt, math.MinInt + 1}

// someNumbers: numbers whose bytes all differ, or are all the same, or have one bit.
var someNumbers = []uint64{0, 1, 127, 128, 255, 256, 258, 65535, 65536, 0x0102030405060708, 0xF1E2D3C4B5A69788, 1 << 31, 1 << 32, 1 << 63, 1<<63 - 1, 1<<64 - 1}

func wantCode(t *testing.T, what string, got, want api.Errno) {
	t.Helper()
	if got != want {
		t.Errorf("%s: error %d, want %d", what, got, want)
	}
}

func wantBytes(t *testing.T, what string, got []byte, want ...byte) {
	t.Helper()
	if !bytes.Equal(got, want) {
		t.Errorf("%s: % X, want % X", what, got, want)
	}
}

func wantNumber(t *testing.T, what string, got uint64, e api.Errno, want uint64, wantE api.Errno) {
	t.Helper()
	if got != want || e != wantE {
		t.Errorf("%s: %X, error %d, want %X, error %d", what, got, e, want, wantE)
	}
}

// wantWritten: a writer's bytes and its length.
func wantWritten(t *testing.T, what string, w *wire.Writer, want ...byte) {
	t.Helper()
	wantBytes(t, what, w.Bytes(), want...)
	if w.Len() != len(want) {
		t.Errorf("%s: Len %d, want %d", what, w.Len(), len(want))
	}
}

// wantPlace: a reader's place.
func wantPlace(t *testing.T, what string, r *wire.Reader, off, left int) {
	t.Helper()
	if r.Off() != off || r.Left() != left {
		t.Errorf("%s: Off %d, Left %d, want %d, %d", what, r.Off(), r.Left(), off, left)
	}
}

// lowBytes: v's n lowest bytes, the lowest first, by division.
func lowBytes(v uint64, n int) []byte {
	b := []byte{}
	for range n {
		b = append(b, byte(v%256))
		v /= 256
	}
	return b
}

// turned: the other way round.
func turned(b []byte) []byte {
	c := []byte{}
	for i := range b {
		c = append(c, b[len(b)-1-i])
	}
	return c
}

// modulo: v's n lowest bytes as a number.
func modulo(v uint64, n int) uint64 {
	if n == 8 {
		return v
	}
	return v % (1 << (8 * n))
}

// count: n bytes from 1 on.
func count(n int) []byte {
	b := make([]byte, n)
	for i := range b {
		b[i] = byte(i + 1)
	}
	return b
}
