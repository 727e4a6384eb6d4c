package frame_test

import (
	"bytes"
	"testing"

	"pith/api"
)

// P24.3: the chapter's examples.
func TestReadFooterExamples(t *testing.T) {
	wantReadFooter(t, footerOf(255, 0, 10), 10, 1024, api.OK)
	b := []byte{0x1F, 0xB6, 0xF3, 0x7D, 0x01, 0x00, 0x00, 0x00, 0x00, 0x04, 0x59, 0x5A}
	wantReadFooter(t, b, 4, 8, api.OK)
	b[10], b[0] = 0x58, 0x00
	wantNoReadFooter(t, b, api.ErrFormat)
	b[10] = 0x59
	wantNoReadFooter(t, b, api.ErrCheck)
	wantNoReadFooter(t, footerOf(1, 0, 2), api.ErrFormat)
}

// P24.3: every beginning, whatever stands in it and in the room behind it.
func TestReadFooterOfBeginnings(t *testing.T) {
	for _, b := range [][]byte{footerOf(1, 0, 4), footerOf(0, 0, 0), footerOf(1<<32-1, 0, 10), footerOf(1, 0, 2), footerOf(1, 7, 1), make([]byte, 12), bytes.Repeat([]byte{0xFF}, 12)} {
		for n := range b {
			wantNoReadFooter(t, b[:n:n], api.ErrTruncated)
			wantNoReadFooter(t, withRoom(b[:n], b[n:]...), api.ErrTruncated)
		}
	}
}

// P24.3: every other byte at each place, with the CRC as it was.
func TestReadFooterWithAByteChanged(t *testing.T) {
	for _, kind := range kinds {
		for i := range 12 {
			for x := 1; x < 256; x++ {
				b := footerOf(0x01020304, 0, byte(kind))
				b[i] ^= byte(x)
				want := api.ErrCheck
				if i > 9 {
					want = api.ErrFormat
				}
				wantNoReadFooter(t, b, want)
			}
		}
	}
}

// P24.3: every other byte of the told size, with the right CRC: another size.
func TestReadFooterOfOtherSizes(t *testing.T) {
	for i := range 4 {
		for x := range 256 {
			told := uint32(x) << (8 * i)
			for _, kind := range kinds {
				wantReadFooter(t, footerOf(told, 0, byte(kind)), kind, 4*(int(told)+1), api.OK)
				wantReadFooter(t, footerOf(^told, 0, byte(kind)), kind, 4*(1<<32-int(told)), api.OK)
			}
		}
	}
}

// P24.3: each two bytes behind the told size, with the right CRC: the kinds alone are read, behind a 0 alone.
func TestReadFooterOfAllFlags(t *testing.T) {
	for ninth := range 256 {
		for tenth := range 256 {
			b := footerOf(uint32(tenth), byte(ninth), byte(tenth))
			kind, index, errno := readFooterByWords(b)
			if right := ninth == 0 && (tenth == 0 || tenth == 1 || tenth == 4 || tenth == 10); right != (errno == api.OK) || !right && errno != api.ErrFormat {
				t.Fatalf("the words of %s: error %d", shown(b), errno)
			}
			wantReadFooter(t, b, kind, index, errno)
		}
	}
}

// P24.3: which fault comes first, where two or three are there.
func TestReadFooterFaultsInOrder(t *testing.T) {
	for i := range 12 {
		for j := range 12 {
			for _, flags := range [][2]byte{{0, 4}, {0, 2}, {1, 4}, {0xFF, 0xFF}} {
				b := footerOf(77, flags[0], flags[1])
				b[i] ^= 0x21
				b[j] ^= 0x40
				_, other := wantReadByWords(t, b)
				if (i > 9 || j > 9) != (other == api.ErrFormat) {
					t.Errorf("the words of %s: error %d", shown(b), other)
				}
				wantNoReadFooter(t, b[:11], api.ErrTruncated)
			}
		}
	}
	// The mark ahead of the CRC, and the CRC ahead of the kind.
	b := footerOf(1, 1, 2)
	wantNoReadFooter(t, b, api.ErrFormat)
	b[3] ^= 1
	wantNoReadFooter(t, b, api.ErrCheck)
	b[11] ^= 1
	wantNoReadFooter(t, b, api.ErrFormat)
}

// P24.3: the CRC is of the six bytes alone, and its lowest byte is the first.
func TestReadFooterWithOtherSums(t *testing.T) {
	b := footerOf(9, 0, 4)
	for _, sum := range [][]byte{
		sumByWords(b[4:]), sumByWords(b[4:9]), sumByWords(b[4:8]), sumByWords(b[8:10]), sumByWords(nil), {0, 0, 0, 0}, {0xFF, 0xFF, 0xFF, 0xFF}, {b[3], b[2], b[1], b[0]}, {^b[0], ^b[1], ^b[2], ^b[3]},
	} {
		wantNoReadFooter(t, append(bytes.Clone(sum), b[4:]...), api.ErrCheck)
	}
}

// P24.3: a header is no footer, and the marks of files of other makes are none.
func TestReadFooterOfOtherMarks(t *testing.T) {
	for _, kind := range kinds {
		wantNoReadFooter(t, headerOf(0, byte(kind)), api.ErrFormat)
		for _, mark := range [][2]byte{{0x5A, 0x59}, {0x59, 0x59}, {0x5A, 0x5A}, {0x59, 0}, {0, 0x5A}, {0, 0}, {'y', 'z'}} {
			wantNoReadFooter(t, append(footerOf(1, 0, byte(kind))[:10:10], mark[:]...), api.ErrFormat)
		}
	}
}

// P24.3: nothing behind the twelve bytes is looked at.
func TestReadFooterLooksNotBehind(t *testing.T) {
	for n := range 40 {
		behind := noise(int64(n), n)
		for _, b := range [][]byte{footerOf(5, 0, 1), footerOf(5, 0, 3), footerOf(5, 4, 0), make([]byte, 12), append(footerOf(5, 0, 1)[:11:11], 0)} {
			kind, index, errno := readFooterByWords(b)
			wantReadFooter(t, append(b[:12:12], behind...), kind, index, errno)
			wantReadFooter(t, append(b[:12:12], footerOf(6, 0, 4)...), kind, index, errno)
		}
	}
	wantNoReadFooter(t, append([]byte{0, 0, 0, 0}, footerOf(5, 0, 1)...), api.ErrFormat)
}
