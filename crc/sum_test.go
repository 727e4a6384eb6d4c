package crc_test

import (
	"hash/crc32"
	"hash/crc64"
	"math/rand"
	"testing"

	"pith/crc"
)

// P3.1: the chapter's examples.
func TestExamplesOfSums(t *testing.T) {
	for _, c := range []struct {
		text string
		a    uint32
		b    uint64
	}{
		{"", 0, 0},
		{"\x00", 0xD202EF8D, 0x1FADA17364673F59},
		{"\x01", 0xA505DF1B, 0xAC83EDCD67C06036},
		{"\x00\x00\x00\x00", 0x2144DF1C, 0xF4A586351E1B9F4B},
		{"\xFF\xFF\xFF\xFF", 0xFFFFFFFF, 0xFFFFFFFF00000000},
		{"123456789", 0xCBF43926, 0x995DC9BBDF1939FA},
		{"1234", 0x9BE3E0A3, 0xCE4E879366B8C328},
		{"56789", 0x131DA070, 0x6971A807C348604B},
		{"pith", 0x0547DAB7, 0xD6ABD2EB40D4789E},
		{"path", 0x0B548B0F, 0xBC2C779464890843},
	} {
		a, b := crc.Sum32([]byte(c.text)), crc.Sum64([]byte(c.text))
		if a != c.a || b != c.b {
			t.Errorf("%q: %08X, %016X, want %08X, %016X", c.text, a, b, c.a, c.b)
		}
	}
	if a, b := crc.More32(0x12345678, []byte{0}), crc.More64(0x12345678, []byte{0}); a != 0x8CCE22D5 || b != 0x0A16EEF883FD9A13 {
		t.Errorf("More: %08X, %016X", a, b)
	}
	if s := crc.Sum32([]byte("12"), nil, []byte("3456789")); s != 0xCBF43926 {
		t.Errorf("Sum32 of pieces: %08X", s)
	}
}

// P3.1: by the chapter's words, bit by bit, and by Go's own sums.
func TestSums(t *testing.T) {
	table := crc64.MakeTable(crc64.ECMA)
	for _, b := range texts() {
		for _, w := range sums() {
			w.wantSum(t, w.carried(0, b), b)
		}
		if s := crc.Sum32(b); s != crc32.ChecksumIEEE(b) {
			t.Errorf("Sum32(%.40q): %08X, want %08X", b, s, crc32.ChecksumIEEE(b))
		}
		if s := crc.Sum64(b); s != crc64.Checksum(b, table) {
			t.Errorf("Sum64(%.40q): %016X, want %016X", b, s, crc64.Checksum(b, table))
		}
	}
}

// P3.1: all of two bytes: each entry of a table, ahead of each other.
func TestSumsOfTwoBytes(t *testing.T) {
	for _, w := range sums() {
		for i := range 65536 {
			b := []byte{byte(i), byte(i >> 8)}
			w.wantSum(t, w.carried(0, b), b)
		}
	}
}

// P3.1: no piece, and pieces of no byte.
func TestSumOfNothing(t *testing.T) {
	for _, w := range sums() {
		w.wantSum(t, 0)
		w.wantSum(t, 0, [][]byte{}...)
		w.wantSum(t, 0, nil)
		w.wantSum(t, 0, []byte{})
		w.wantSum(t, 0, nil, []byte{}, nil)
		// What lies in the room behind a piece is none of it.
		w.wantSum(t, 0, []byte("room")[:0])
		x := []byte("x")
		one := w.carried(0, x)
		w.wantSum(t, one, nil, x)
		w.wantSum(t, one, x, nil)
		w.wantSum(t, one, []byte{}, x, []byte{})
	}
}

// P3.1: wherever the text is cut.
func TestSumOfPieces(t *testing.T) {
	r := rand.New(rand.NewSource(31))
	for _, w := range sums() {
		for n := range 40 {
			b := chanceBytes(r, n)
			want := w.carried(0, b)
			for i := range n + 1 {
				for j := i; j <= n; j++ {
					w.wantSum(t, want, b[:i], b[i:j], b[j:])
				}
			}
			single := [][]byte{}
			for i := range b {
				single = append(single, b[i:i+1])
			}
			w.wantSum(t, want, single...)
		}
	}
}

// P3.1: More of any number, a sum or not.
func TestMore(t *testing.T) {
	r := rand.New(rand.NewSource(32))
	for _, w := range sums() {
		for range 20000 {
			s, b := w.chance(r), chanceBytes(r, r.Intn(24))
			w.wantMore(t, s, b, w.carried(s, b))
		}
		for i := range w.width {
			s := uint64(1) << i
			w.wantMore(t, s, nil, s)
			w.wantMore(t, s, []byte{}, s)
			w.wantMore(t, s, []byte{7}, w.carried(s, []byte{7}))
		}
		w.wantMore(t, w.ones(), nil, w.ones())
		w.wantMore(t, w.ones(), make([]byte, 9), w.carried(w.ones(), make([]byte, 9)))
	}
}

// P3.1: More(Sum(x), y) is Sum(x, y).
func TestMoreOfASum(t *testing.T) {
	all := texts()
	for _, w := range sums() {
		for i, x := range all {
			y := all[(7*i+3)%len(all)]
			w.wantMore(t, w.sum(x), y, w.carried(0, joined(x, y)))
			w.wantSum(t, w.more(w.sum(x), y), x, y)
		}
	}
}

// P3.5: whatever the bytes, with their own sum behind them they have one sum.
func TestOwnSums(t *testing.T) {
	for _, w := range sums() {
		want := w.carried(0, make([]byte, w.width/8))
		for _, b := range texts() {
			w.wantSum(t, want, b, w.ownBytes(w.sum(b)))
			w.wantSum(t, want, joined(b, w.ownBytes(w.sum(b))))
		}
	}
	if s := crc.Sum32([]byte("123456789"), []byte{0x26, 0x39, 0xF4, 0xCB}); s != 0x2144DF1C {
		t.Errorf("the text and its sum of 32 bits: %08X", s)
	}
}

// P3.5: with another sum behind them they have another one.
func TestNotOwnSums(t *testing.T) {
	r := rand.New(rand.NewSource(35))
	for _, w := range sums() {
		own := w.carried(0, make([]byte, w.width/8))
		for _, b := range texts() {
			wrong := w.sum(b) ^ 1<<r.Intn(w.width)
			if s := w.sum(b, w.ownBytes(wrong)); s == own {
				t.Errorf("%s bits: %.40q and %X: %X", w.name, b, wrong, s)
			}
		}
	}
}
