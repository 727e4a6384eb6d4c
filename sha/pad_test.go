package sha_test

import (
	"bytes"
	"testing"

	"pith/sha"
)

func wantPad(t *testing.T, n int, want []byte) {
	t.Helper()
	if got := sha.Pad(n); !bytes.Equal(got, want) {
		t.Errorf("Pad(%d): % X, want % X", n, got, want)
	}
}

// P4.4: the chapter's examples, byte by byte.
func TestExamplesOfPadding(t *testing.T) {
	wantPad(t, 0, append([]byte{0x80}, make([]byte, 63)...))
	wantPad(t, 55, []byte{0x80, 0, 0, 0, 0, 0, 0, 1, 0xB8})
	wantPad(t, 56, append(append([]byte{0x80}, make([]byte, 69)...), 1, 0xC0))
	wantPad(t, 63, append(append([]byte{0x80}, make([]byte, 62)...), 1, 0xF8))
	wantPad(t, 64, append(append([]byte{0x80}, make([]byte, 61)...), 2, 0))
	wantPad(t, -1, nil)
}

// P4.4: every length up to some blocks, by the chapter's words.
func TestPadOfEveryLength(t *testing.T) {
	for n := range 1000 {
		wantPad(t, n, padding(n))
		p := sha.Pad(n)
		if len(p) < 9 || len(p) > 72 || (n+len(p))%64 != 0 {
			t.Errorf("Pad(%d) has %d bytes", n, len(p))
		}
	}
}

// P4.4: great lengths, whose bits are counted modulo 2^64.
func TestPadOfGreatLengths(t *testing.T) {
	wantPad(t, greatest, append(append([]byte{0x80}, make([]byte, 56)...), 0xFF, 0xFF, 0xFF, 0xFF, 0xFF, 0xFF, 0xFF, 0xF8))
	for i := range 63 {
		for _, n := range []int{1<<i - 1, 1 << i, 1<<i + 55, 1<<i + 56} {
			wantPad(t, n, padding(n))
		}
	}
	for i := range 200 {
		wantPad(t, greatest-i, padding(greatest-i))
		wantPad(t, 1<<61-100+i, padding(1<<61-100+i))
	}
}

// P4.4: no bytes below 0.
func TestPadBelowZero(t *testing.T) {
	for _, n := range []int{-1, -2, -8, -9, -55, -56, -63, -64, -65, -1 << 31, -1 << 60, -1 << 61, least + 1, least} {
		if p := sha.Pad(n); len(p) != 0 {
			t.Errorf("Pad(%d): % X", n, p)
		}
	}
}

// P4.4: the answer is the caller's own, its spare room too.
func TestPadIsNewMemory(t *testing.T) {
	for _, n := range append([]int{-1, greatest}, edges...) {
		first, second := sha.Pad(n), sha.Pad(n)
		want := bytes.Clone(second)
		fill(first, 55)
		if !bytes.Equal(second, want) || !bytes.Equal(sha.Pad(n), want) {
			t.Errorf("Pad(%d) behind a change of an answer: % X, want % X", n, sha.Pad(n), want)
		}
	}
	wantSum(t, summed([]byte("abc")), []byte("abc"))
}
