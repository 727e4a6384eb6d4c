package rcdec_test

import (
	"bytes"
	"math/rand"
	"testing"

	"pith/api"
	"pith/rcdec"
)

func noDecoder(t *testing.T, want api.Errno, b ...byte) {
	t.Helper()
	if d, e := rcdec.New(b); d != nil || e != want {
		t.Errorf("New(% X): %v, error %d; want none, error %d", b, d, e, want)
	}
}

// P8.1: the chapter's examples.
func TestNewOfTheExamples(t *testing.T) {
	wantEnd(t, begun(t, 0, 0, 0, 0, 0), 5, true)
	wantEnd(t, begun(t, 0, 0x7F, 0xFF, 0xFC, 0), 5, false)
	noDecoder(t, api.ErrTruncated, 0, 0, 0, 0)
	noDecoder(t, api.ErrTruncated, 1, 0, 0, 0)
	noDecoder(t, api.ErrFormat, 1, 0, 0, 0, 0)
	noDecoder(t, api.ErrFormat, 0, 0xFF, 0xFF, 0xFF, 0xFF)
	wantEnd(t, begun(t, 0, 0xFF, 0xFF, 0xFF, 0xFE), 5, false)
}

// P8.1, W5: fewer than five bytes are ErrTruncated, whatever they are.
func TestNewOfTooFew(t *testing.T) {
	noDecoder(t, api.ErrTruncated)
	if d, e := rcdec.New([]byte{}); d != nil || e != api.ErrTruncated {
		t.Errorf("New of an empty list: %v, error %d", d, e)
	}
	for n := range 5 {
		for _, c := range []byte{0, 1, 0x80, 0xFF} {
			b := bytes.Repeat([]byte{c}, n)
			noDecoder(t, api.ErrTruncated, b...)
			if n > 0 {
				b[0] = 0
				noDecoder(t, api.ErrTruncated, b...)
			}
		}
	}
}

// P8.1, W4: bytes in the room behind the list's end are not read.
func TestNewReadsNoSpareRoom(t *testing.T) {
	room := []byte{0, 0, 0, 0, 0, 0, 0, 0}
	if d, e := rcdec.New(room[:4]); d != nil || e != api.ErrTruncated {
		t.Errorf("New of four bytes with room behind: %v, error %d", d, e)
	}
	d := begun(t, room[:5]...)
	noDirect(t, d, 8, api.ErrTruncated)
	wantEnd(t, d, 5, true)
}

// P8.1: a first byte that is not 0 is ErrFormat, whatever follows.
func TestNewOfAnotherFirstByte(t *testing.T) {
	for first := 1; first < 256; first++ {
		for _, n := range []int{5, 6, 40} {
			for _, c := range []byte{0, 1, 0xFF} {
				b := bytes.Repeat([]byte{c}, n)
				b[0] = byte(first)
				noDecoder(t, api.ErrFormat, b...)
			}
		}
	}
}

// P8.1: four bytes 255 behind the first are ErrFormat, whatever follows; less in any one of them is not.
func TestNewOfTheGreatestCode(t *testing.T) {
	for _, n := range []int{0, 1, 2, 30} {
		for _, c := range []byte{0, 1, 0xFF} {
			tail := bytes.Repeat([]byte{c}, n)
			b := append([]byte{0, 0xFF, 0xFF, 0xFF, 0xFF}, tail...)
			noDecoder(t, api.ErrFormat, b...)
			for i := 1; i < 5; i++ {
				for _, less := range []byte{0xFE, 0x7F, 0} {
					b[i] = less
					wantEnd(t, begun(t, b...), 5, false)
				}
				b[i] = 0xFF
			}
		}
	}
}

// P8.1: the code is what bytes 2 to 5 are, the highest first: each bit of them is seen in what is read.
func TestNewTakesTheCode(t *testing.T) {
	r := rand.New(rand.NewSource(811))
	for place := range 32 {
		b := make([]byte, 40)
		b[1+place/8] = 0x80 >> (place % 8)
		for _, c := range [][]byte{b[:5], b[:6], b} {
			p := newPair(t, 2, c...)
			if p.u.code != 1<<(31-place) {
				t.Fatalf("the code is %X", p.u.code)
			}
			p.same(t)
			p.drain(t, r)
		}
	}
	for range 300 {
		newPair(t, 2, chanceBytes(r, 5+r.Intn(30))...).drain(t, r)
	}
}

// P8.1: the range is 2^32-1: a code of one less than its half is a 0, its half a 1.
func TestNewHasTheWidestRange(t *testing.T) {
	d := begun(t, 0, 0x7F, 0xFF, 0xFF, 0xFE)
	wantDirect(t, d, 1, 0)
	d = begun(t, 0, 0x7F, 0xFF, 0xFF, 0xFF)
	wantDirect(t, d, 1, 1)
	wantEnd(t, d, 5, true)
	d = begun(t, 0, 0xFF, 0xFF, 0xFF, 0xFD)
	wantDirect(t, d, 1, 1)
	noDirect(t, d, 1, api.ErrFormat)
}

// P8.1, W3, W8: it has a copy: writing over what was handed in is not seen, nor is that changed by reading.
func TestNewHasACopy(t *testing.T) {
	r := rand.New(rand.NewSource(812))
	for range 50 {
		room := chanceBytes(r, 60)
		kept := bytes.Clone(room)
		given := room[:40]
		d, e := rcdec.New(given)
		if d == nil || e != api.OK {
			t.Fatalf("New: error %d", e)
		}
		other, _ := rcdec.New(given)
		s := made(t, 2)
		for k := range 100 {
			other.Bit(s, k%2)
			other.Direct(k % 33)
		}
		if !bytes.Equal(room, kept) {
			t.Fatal("reading changed what was handed in")
		}
		for i := range room {
			room[i] = ^room[i]
		}
		p := &pair{d, made(t, 3), newTeller(kept[:40]), alike(3, 1024)}
		p.drain(t, r)
	}
}
