package varint_test

import (
	"bytes"
	"math/rand"
	"testing"

	"pith/api"
	"pith/varint"
)

// greatest: the greatest number.
const greatest = 1<<63 - 1

// edges: 0, the greatest number, each power of two and what lies beside it (the powers of 128 among them).
func edges() []uint64 {
	v := []uint64{0, 300, greatest}
	for i := range 63 {
		p := uint64(1) << i
		v = append(v, p-1, p, p+1)
	}
	return v
}

// someNumbers: the edges, all small numbers, and numbers of every size.
func someNumbers() []uint64 {
	v := edges()
	for i := range 20000 {
		v = append(v, uint64(i))
	}
	chance := rand.New(rand.NewSource(2))
	for range 20000 {
		v = append(v, chance.Uint64()>>(1+chance.Intn(63)))
	}
	return v
}

// tooGreat: what is no number.
var tooGreat = []uint64{1 << 63, 1<<63 + 1, 1<<63 + 127, 1<<63 + 128, 1<<64 - 128, 1<<64 - 2, 1<<64 - 1}

// sevens: the bytes of v by the words of the chapter: groups of seven bits, by division.
func sevens(v uint64) []byte {
	b := []byte{}
	for v >= 128 {
		b = append(b, byte(v%128)+128)
		v /= 128
	}
	return append(b, byte(v))
}

// run: n equal bytes, and others behind them.
func run(x byte, n int, more ...byte) []byte {
	return append(bytes.Repeat([]byte{x}, n), more...)
}

// fill: every byte of b and of the room behind it.
func fill(b []byte, x byte) {
	b = b[:cap(b)]
	for i := range b {
		b[i] = x
	}
}

func wantPut(t *testing.T, v uint64, want []byte) {
	t.Helper()
	b, e := varint.Put(v)
	if !bytes.Equal(b, want) || e != api.OK {
		t.Errorf("Put(%d): % X, error %d, want % X", v, b, e, want)
	}
}

func wantNumber(t *testing.T, b []byte, v uint64, n int) {
	t.Helper()
	gotV, gotN, e := varint.Get(b)
	if gotV != v || gotN != n || e != api.OK {
		t.Errorf("Get(% X): %d, %d, error %d, want %d, %d", b, gotV, gotN, e, v, n)
	}
}

// wantError: and every other result is 0.
func wantError(t *testing.T, b []byte, want api.Errno) {
	t.Helper()
	v, n, e := varint.Get(b)
	if v != 0 || n != 0 || e != want {
		t.Errorf("Get(% X): %d, %d, error %d, want error %d", b, v, n, e, want)
	}
}
