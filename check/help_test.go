package check_test

import (
	"bytes"
	"encoding/binary"
	"encoding/hex"
	"math/rand"
	"strings"
	"testing"

	"pith/api"
	"pith/check"
	"pith/crc"
	"pith/sha"
)

// The greatest and the least int.
const (
	greatest = 1<<63 - 1
	least    = -1 << 63
)

// readKinds: those that are read here.
var readKinds = []int{0, 1, 4, 10}

// unreadKinds: those that are known by their sizes alone.
var unreadKinds = []int{2, 3, 5, 6, 7, 8, 9, 11, 12, 13, 14, 15}

// noKinds: numbers that are none, also such whose lowest bits are those of one.
var noKinds = []int{
	-1, 16, -2, -4, -10, -15, -16, 17, 20, 26, 31, 32, 100, 255, 256, 257, 260, 266,
	1 << 31, -1 << 31, 1 << 32, 1<<32 + 1, 1<<32 + 4, 1<<32 + 10, 1 << 40, 1<<62 + 1,
	greatest, greatest - 1, least, least + 1, least + 4, least + 10,
}

// lengths: of bytes, beside those at which a block of SHA-256 is full, or its padding goes into one more.
var lengths = []int{0, 1, 2, 3, 4, 5, 7, 8, 9, 31, 32, 33, 55, 56, 57, 63, 64, 65, 119, 120, 127, 128, 129, 1000}

// sizeOf: by the words of the chapter.
func sizeOf(kind int) int {
	switch {
	case kind == 0:
		return 0
	case kind <= 3:
		return 4
	case kind <= 6:
		return 8
	case kind <= 9:
		return 16
	case kind <= 12:
		return 32
	}
	return 64
}

// checkOf: by the words of the chapter, of bytes at once.
func checkOf(kind int, b []byte) []byte {
	switch kind {
	case 1:
		return binary.LittleEndian.AppendUint32(nil, crc.Sum32(b))
	case 4:
		return binary.LittleEndian.AppendUint64(nil, crc.Sum64(b))
	case 10:
		sum := sha.Sum(b)
		return sum[:]
	}
	return nil
}

// written: bytes as the chapter's table writes them.
func written(t *testing.T, text string) []byte {
	t.Helper()
	b, err := hex.DecodeString(strings.ReplaceAll(text, " ", ""))
	if err != nil {
		t.Fatalf("%q are no bytes", text)
	}
	return b
}

// joined: the pieces, one behind the other, in memory of their own.
func joined(pieces ...[]byte) []byte {
	return bytes.Join(pieces, nil)
}

// chanceBytes: n bytes.
func chanceBytes(r *rand.Rand, n int) []byte {
	b := make([]byte, n)
	r.Read(b)
	return b
}

// chancePieces: some, of lengths at the edges, empty ones and nil among them.
func chancePieces(r *rand.Rand) [][]byte {
	pieces := make([][]byte, r.Intn(8))
	for i := range pieces {
		if r.Intn(5) > 0 {
			pieces[i] = chanceBytes(r, lengths[r.Intn(len(lengths))])
		}
	}
	return pieces
}

// fill: every byte of b and of the room behind it.
func fill(b []byte, x byte) {
	b = b[:cap(b)]
	for i := range b {
		b[i] = x
	}
}

// turned: b with one bit turned, counted from the lowest of each byte up.
func turned(b []byte, bit int) []byte {
	other := bytes.Clone(b)
	other[bit/8] ^= 1 << (bit % 8)
	return other
}

// begun: a check under way with these pieces written to it.
func begun(t *testing.T, kind int, pieces ...[]byte) *check.State {
	t.Helper()
	s, e := check.New(kind)
	if s == nil || e != api.OK {
		t.Fatalf("New(%d): %v, error %d", kind, s, e)
	}
	for _, p := range pieces {
		s.Write(p)
	}
	return s
}

// wantState: its check, and once more: asking changes nothing.
func wantState(t *testing.T, s *check.State, want []byte) {
	t.Helper()
	for range 2 {
		if got := s.Sum(); !bytes.Equal(got, want) {
			t.Fatalf("the check is % X, want % X", got, want)
		}
	}
}

func wantSum(t *testing.T, kind int, want []byte, pieces ...[]byte) {
	t.Helper()
	if got, e := check.Sum(kind, pieces...); !bytes.Equal(got, want) || e != api.OK {
		t.Errorf("Sum(%d, %.40q): % X, error %d, want % X", kind, pieces, got, e, want)
	}
}

func wantSame(t *testing.T, want api.Errno, kind int, b, sum []byte) {
	t.Helper()
	if e := check.Same(kind, b, sum); e != want {
		t.Errorf("Same(%d, %.40q, % X): error %d, want %d", kind, b, sum, e, want)
	}
}
