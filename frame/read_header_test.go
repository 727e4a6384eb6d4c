package frame_test

import (
	"bytes"
	"testing"

	"pith/api"
)

// P24.2: the chapter's examples.
func TestReadHeaderExamples(t *testing.T) {
	b := []byte{0xFD, 0x37, 0x7A, 0x58, 0x5A, 0x00, 0x00, 0x04, 0xE6, 0xD6, 0xB4, 0x46}
	wantReadHeader(t, b, 4, api.OK)
	wantReadHeader(t, append(bytes.Clone(b), 0xFF, 0, 1), 4, api.OK)
	wantNoReadHeader(t, b[:11], api.ErrTruncated)
	wantNoReadHeader(t, nil, api.ErrTruncated)
	wantNoReadHeader(t, make([]byte, 12), api.ErrFormat)
	b[11] = 0x47
	wantNoReadHeader(t, b, api.ErrCheck)
	wantNoReadHeader(t, headerOf(0, 2), api.ErrUnsupported)
	wantNoReadHeader(t, headerOf(1, 4), api.ErrUnsupported)
}

// P24.2: every beginning, whatever stands in it and in the room behind it.
func TestReadHeaderOfBeginnings(t *testing.T) {
	for _, b := range [][]byte{headerOf(0, 4), headerOf(0, 0), headerOf(0, 2), headerOf(7, 10), make([]byte, 12), bytes.Repeat([]byte{0xFF}, 12)} {
		for n := range b {
			wantNoReadHeader(t, b[:n:n], api.ErrTruncated)
			wantNoReadHeader(t, withRoom(b[:n], b[n:]...), api.ErrTruncated)
		}
	}
}

// P24.2: every other byte at each place, with the CRC as it was.
func TestReadHeaderWithAByteChanged(t *testing.T) {
	for _, kind := range kinds {
		for i := range 12 {
			for x := 1; x < 256; x++ {
				b := headerOf(0, byte(kind))
				b[i] ^= byte(x)
				want := api.ErrCheck
				if i < 6 {
					want = api.ErrFormat
				}
				wantNoReadHeader(t, b, want)
			}
		}
	}
}

// P24.2: each two bytes of a header, with the right CRC: the kinds alone are read, behind a 0 alone.
func TestReadHeaderOfAllFlags(t *testing.T) {
	for seventh := range 256 {
		for eighth := range 256 {
			b := headerOf(byte(seventh), byte(eighth))
			kind, errno := readHeaderByWords(b)
			if right := seventh == 0 && (eighth == 0 || eighth == 1 || eighth == 4 || eighth == 10); right != (errno == api.OK) || !right && errno != api.ErrUnsupported {
				t.Fatalf("the words of %s: error %d", shown(b), errno)
			}
			wantReadHeader(t, b, kind, errno)
		}
	}
}

// P24.2: which fault comes first, where two or three are there.
func TestReadHeaderFaultsInOrder(t *testing.T) {
	for i := range 12 {
		for j := range 12 {
			for _, flags := range [][2]byte{{0, 4}, {0, 2}, {1, 4}, {0xFF, 0xFF}} {
				b := headerOf(flags[0], flags[1])
				b[i] ^= 0x21
				b[j] ^= 0x40
				one, _ := wantReadByWords(t, b)
				if (i < 6 || j < 6) != (one == api.ErrFormat) {
					t.Errorf("the words of %s: error %d", shown(b), one)
				}
				wantNoReadHeader(t, b[:11], api.ErrTruncated)
			}
		}
	}
	// The mark ahead of the CRC, and the CRC ahead of the kind.
	b := headerOf(1, 2)
	b[8] ^= 1
	wantNoReadHeader(t, b, api.ErrCheck)
	b[0] ^= 1
	wantNoReadHeader(t, b, api.ErrFormat)
	b = headerOf(1, 2)
	b[5] = 1
	wantNoReadHeader(t, b, api.ErrFormat)
}

// P24.2: the CRC is of the two bytes alone, and its lowest byte is the first.
func TestReadHeaderWithOtherSums(t *testing.T) {
	b := headerOf(0, 4)
	for _, sum := range [][]byte{
		sumByWords(b[:8]), sumByWords(b[5:8]), sumByWords(b[7:8]), sumByWords(nil), {0, 0, 0, 0}, {0xFF, 0xFF, 0xFF, 0xFF}, {b[11], b[10], b[9], b[8]}, {^b[8], ^b[9], ^b[10], ^b[11]},
	} {
		wantNoReadHeader(t, append(b[:8:8], sum...), api.ErrCheck)
	}
}

// P24.2: a footer is no header.
func TestReadHeaderOfAFooter(t *testing.T) {
	for _, kind := range kinds {
		wantNoReadHeader(t, footerOf(1, 0, byte(kind)), api.ErrFormat)
	}
}

// P24.2: nothing behind the twelve bytes is looked at.
func TestReadHeaderLooksNotBehind(t *testing.T) {
	for n := range 40 {
		behind := noise(int64(n), n)
		for _, b := range [][]byte{headerOf(0, 1), headerOf(0, 3), headerOf(4, 0), make([]byte, 12), append(headerOf(0, 1)[:11:11], 0)} {
			kind, errno := readHeaderByWords(b)
			wantReadHeader(t, append(b[:12:12], behind...), kind, errno)
			wantReadHeader(t, append(b[:12:12], b...), kind, errno)
		}
	}
	wantNoReadHeader(t, append([]byte{0}, headerOf(0, 4)...), api.ErrFormat)
	wantNoReadHeader(t, append([]byte{0, 0, 0, 0}, headerOf(0, 4)...), api.ErrFormat)
}
