package block_test

import (
	"testing"

	"pith/api"
)

// The parts of a block.
const (
	theHeader = iota
	chunkHead
	rawBytes
	packedBytes
	rowEnd
	theZeros
	theCheck
)

// part: where one begins.
type part struct{ what, at int }

// size: of a chunk's bytes, as two bytes of its head tell it: less 1, the highest first.
func size(b []byte) int { return 256*int(b[0]) + int(b[1]) + 1 }

// partsOf: of a block, by the words of the document on the heads of chunks. Parts of no byte are none.
func partsOf(t *testing.T, b []byte, kind int) []part {
	t.Helper()
	at := 4 * (int(b[0]) + 1)
	l := []part{{theHeader, 0}}
	for b[at] != 0 {
		l = append(l, part{chunkHead, at})
		switch {
		case b[at] < 3:
			l = append(l, part{rawBytes, at + 3})
			at += 3 + size(b[at+1:])
		case b[at] < 128:
			t.Fatalf("no chunk begins at %d of %s", at, shown(b))
		case b[at] < 192:
			l = append(l, part{packedBytes, at + 5})
			at += 5 + size(b[at+3:])
		default:
			l = append(l, part{packedBytes, at + 6})
			at += 6 + size(b[at+3:])
		}
	}
	l = append(l, part{rowEnd, at})
	at++
	if at%4 != 0 {
		l = append(l, part{theZeros, at})
	}
	for at%4 != 0 {
		at++
	}
	sum := map[int]int{0: 0, 1: 4, 4: 8, 10: 32}[kind]
	if sum > 0 {
		l = append(l, part{theCheck, at})
	}
	if at+sum != len(b) {
		t.Fatalf("%s has %d bytes", shown(b), at+sum)
	}
	return l
}

// wantCut: P22.6, P22.2: each proper beginning is ErrTruncated, at the beginning of the part that is not there whole, and the whole block is read.
func wantCut(t *testing.T, b []byte, kind, mem int) {
	t.Helper()
	parts := partsOf(t, b, kind)
	next := 0
	for n := range b {
		if next < len(parts) && parts[next].at == n {
			next++
		}
		wantFault(t, b[:n], kind, mem, api.ErrTruncated, parts[next-1].at)
	}
	if a := decoded(b, kind, mem); a.errno != api.OK || a.n != len(b) {
		t.Errorf("Decode(%s, %d, %d): %s", shown(b), kind, mem, a)
	}
}

// P22.6: blocks that Encode made, of each shape.
func TestBeginnings(t *testing.T) {
	for _, c := range shapes() {
		for _, data := range [][]byte{nil, {1}, {1, 2}, []byte("abc"), []byte("abcd"), text(400), slope(300), noise(1, 100)} {
			b, _ := made(t, data, c)
			wantCut(t, b, c.Check, 4096)
		}
	}
}

// P22.6: a block of several chunks, of which the last one is small.
func TestBeginningsOfAGreatBlock(t *testing.T) {
	c := with(4, api.ModeGreedy, 1)
	c.Block = 200000
	data := join(make([]byte, 65536), noise(7, 100), make([]byte, 65436), text(50))
	b, _ := made(t, data, c)
	if n := len(partsOf(t, b, 4)); n != 1+2*3+3 && n != 1+2*3+2 || len(b) > 3000 {
		t.Fatalf("%d parts, %d bytes", n, len(b))
	}
	wantCut(t, b, 4, 4096)
}

// P22.6: blocks of others: with chunks of all kinds, more padding, told sizes.
func TestBeginningsOfOthers(t *testing.T) {
	row := allKinds(t)
	for _, kind := range kinds {
		for _, l := range [][]api.Filter{{lzma(0)}, {apart(3), lzma(2)}} {
			dist, dict, _ := chainByWords(l)
			plain := decoded(laid(headed(t, -1, -1, 0, lzma(0)), row, nil), 0, 4096).data
			sum := checkOf(kind, sums(plain, dist))
			for _, pad := range []int{0, 1, 240} {
				for _, told := range [][2]int{{-1, -1}, {len(row), -1}, {-1, len(plain)}, {len(row), len(plain)}} {
					wantCut(t, laid(headed(t, told[0], told[1], pad, l...), row, sum), kind, dict)
				}
			}
		}
	}
}
