package head_test

import (
	"bytes"
	"math/rand"
	"testing"

	"pith/api"
	"pith/head"
)

// wantBack: P21.3, of a header whose filters are a chain that is read here.
func wantBack(t *testing.T, h api.Head, pad int) {
	t.Helper()
	b := laid(t, h, pad)
	for _, behind := range behinds() {
		wantGet(t, append(bytes.Clone(b), behind...), sized(h, len(b)))
	}
	wantGet(t, withRoom(b), sized(h, len(b)))
}

// wantAgain: P21.3, of bytes that Get takes: laid again with the pad that there is, they are what they were.
func wantAgain(t *testing.T, b []byte) {
	t.Helper()
	h, errno := head.Get(b)
	if errno != api.OK {
		t.Errorf("Get(%s): error %d", shown(b), errno)
		return
	}
	least := laid(t, h, 0)
	wantPut(t, h, (h.Bytes-len(least))/4, b[:h.Bytes]...)
}

// P21.3: every chain with one distance, and every distance with one dictionary.
func TestThereAndBackOfChains(t *testing.T) {
	for x := range 41 {
		wantBack(t, plain(lzma(byte(x))), x%3)
		wantBack(t, headOf(1+x, 0, apart(x+1), lzma(byte(x))), x%4)
	}
	for dist := 1; dist <= 256; dist++ {
		wantBack(t, headOf(-1, dist, apart(dist), lzma(byte(dist%41))), dist%5)
	}
}

// P21.3: the sizes at all edges.
func TestThereAndBackOfSizes(t *testing.T) {
	for _, packed := range append(told(), -1) {
		for _, size := range append(told(), -1, 0) {
			wantBack(t, headOf(packed, size, lzma(0)), 0)
			wantBack(t, headOf(packed, size, apart(256), lzma(40)), 1)
		}
	}
}

// P21.3: every length that a header can have.
func TestThereAndBackOfPads(t *testing.T) {
	for pad := range 254 {
		wantBack(t, plain(lzma(3)), pad)
		wantBack(t, plain(apart(3), lzma(3)), pad)
		if pad < 250 {
			wantBack(t, headOf(1<<62, 1<<20, apart(3), lzma(3)), pad)
		}
	}
}

// P21.3: each there and back again, also rooms by chance that Get takes.
func TestThereAndBackAndThere(t *testing.T) {
	for _, l := range chains() {
		for _, packed := range []int{-1, 1, 127, 128, greatest} {
			for _, size := range []int{-1, 0, 16384, greatest} {
				for _, pad := range []int{0, 1, 7, 200} {
					wantAgain(t, append(laid(t, headOf(packed, size, l...), pad), 1, 2, 3))
				}
			}
		}
	}
	r := rand.New(rand.NewSource(213))
	taken := 0
	for range 150000 {
		room := make([]byte, 2+4*(1+r.Intn(3)))
		flags := []byte{0, 1, 64, 65, 128, 129, 192, 193}[r.Intn(8)]
		for i := range room {
			room[i] = likely(r)
		}
		// A chain somewhere, and zeros behind it, are taken more often than what chance makes alone.
		if flags%2 == 0 {
			at := r.Intn(3)
			copy(room[at:], []byte{0x21, 1, byte(r.Intn(42)), 0, 0, 0, 0, 0, 0, 0, 0, 0})
		}
		if b := headed(flags, room...); wantGetByWords(t, b) == api.OK {
			taken++
			wantAgain(t, b)
		}
	}
	if taken < 5000 {
		t.Errorf("%d were taken", taken)
	}
}
