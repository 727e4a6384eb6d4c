package stream_test

import (
	"testing"

	"pith/api"
	"pith/lzma2"
	"pith/stream"
)

// The parts of a file.
const (
	theHeader = iota
	blockHeader
	chunkHead
	rawBytes
	packedBytes
	rowEnd
	blockZeros
	theCheck
	indexMark
	theCount
	unpaddedSize
	plainSize
	indexZeros
	indexSum
	theFooter
)

// part: which one, and where it begins.
type part struct{ what, at int }

// parts: of a file, noted one after the other; at: where the next one begins. Parts of no byte are none.
type parts struct {
	l  []part
	at int
}

func (p *parts) note(what, n int) {
	if n > 0 {
		p.l = append(p.l, part{what, p.at})
	}
	p.at += n
}

// two: a size that two bytes tell: less 1, the highest first.
func two(b []byte) int { return 256*int(b[0]) + int(b[1]) + 1 }

// ofBlock: by the words on a block's header and on the heads of chunks.
func (p *parts) ofBlock(f []byte, sum int) {
	p.note(blockHeader, 4*(int(f[p.at])+1))
	for f[p.at] != 0 {
		switch head := f[p.at:]; {
		case head[0] < 3:
			p.note(chunkHead, 3)
			p.note(rawBytes, two(head[1:]))
		case head[0] < 192:
			p.note(chunkHead, 5)
			p.note(packedBytes, two(head[3:]))
		default:
			p.note(chunkHead, 6)
			p.note(packedBytes, two(head[3:]))
		}
	}
	p.note(rowEnd, 1)
	p.note(blockZeros, (4-p.at%4)%4)
	p.note(theCheck, sum)
}

// number: of as many bytes as have 128 more, and one.
func (p *parts) number(f []byte, what int) {
	n := 1
	for f[p.at+n-1] >= 128 {
		n++
	}
	p.note(what, n)
}

// partsOf: of a file that is right, by the document's words.
func partsOf(t *testing.T, f []byte) []part {
	t.Helper()
	var p parts
	p.note(theHeader, 12)
	blocks := 0
	for ; f[p.at] != 0; blocks++ {
		p.ofBlock(f, map[byte]int{0: 0, 1: 4, 4: 8, 10: 32}[f[7]])
	}
	p.note(indexMark, 1)
	p.number(f, theCount)
	for range blocks {
		p.number(f, unpaddedSize)
		p.number(f, plainSize)
	}
	p.note(indexZeros, (4-p.at%4)%4)
	p.note(indexSum, 4)
	p.note(theFooter, 12)
	if p.at != len(f) {
		t.Fatalf("%s has %d bytes", shown(f), p.at)
	}
	return p.l
}

// where: parts of this kind.
func where(l []part, what int) []int {
	var all []int
	for _, p := range l {
		if p.what == what {
			all = append(all, p.at)
		}
	}
	return all
}

// partAt: the place at which the part begins that has the byte at n.
func partAt(l []part, n int) int {
	at := 0
	for _, p := range l {
		if p.at <= n {
			at = p.at
		}
	}
	return at
}

// wantCut: P25.5: each proper beginning is Truncated, at the beginning of the part that is not there whole; all of it is read.
func wantCut(t *testing.T, f []byte, mem int) {
	t.Helper()
	wantCutFrom(t, f, mem, 0)
}

// wantCutFrom: likewise, of the beginnings that have so many bytes at least.
func wantCutFrom(t *testing.T, f []byte, mem, least int) {
	t.Helper()
	l := partsOf(t, f)
	for n := least; n < len(f); n++ {
		wantFault(t, f[:n], mem, stream.Truncated, partAt(l, n))
	}
	if a := wantByWords(t, f, mem); a.err != nil {
		t.Errorf("Decode(%s, %d): %v at %d", shown(f), mem, a.err, a.off)
	}
}

// P25.5: files without a block.
func TestBeginningsOfEmptyFiles(t *testing.T) {
	for _, kind := range kinds {
		f := made(t, nil, with(kind, 0, 0, 1))
		wantCut(t, f, 0)
		for n, off := range map[int]int{0: 0, 11: 0, 12: 12, 13: 13, 14: 14, 15: 14, 16: 16, 19: 16, 20: 20, 31: 20} {
			wantFault(t, f[:n], 0, stream.Truncated, off)
		}
	}
}

// P25.5: files that Encode made, of each shape, with one block and with several.
func TestBeginnings(t *testing.T) {
	t.Parallel()
	all := [][]byte{{1}, []byte("ab"), []byte("abc"), text(100), slope(130), noise(1, 90), text(81)}
	for i, c := range shapes(40) {
		wantCut(t, made(t, all[i%len(all)], c), 4096)
		c.Block = 41 + i
		wantCut(t, made(t, all[i%5+2], c), 4096)
	}
}

// P25.5: numbers of two and three bytes in the index, and blocks of several chunks.
func TestBeginningsOfGreatFiles(t *testing.T) {
	t.Parallel()
	f := made(t, text(130), with(1, 0, 0, 1))
	wantCutFrom(t, f, 4096, where(partsOf(t, f), indexMark)[0]-30)
	wantCut(t, made(t, text(300), with(10, 0, 1, 200)), 4096)
	f = made(t, join(make([]byte, 65536), noise(7, 100), make([]byte, 65436), text(50)), with(4, api.ModeGreedy, 1, 200000))
	wantCutFrom(t, f, 4096, len(f)-100)
}

// allKinds: a row of one chunk of each kind, and its data.
func allKinds(t *testing.T) ([]byte, []byte) {
	t.Helper()
	props := api.Props{LC: 1, LP: 1, PB: 1}
	symbols := []api.Symbol{{Kind: api.SymLit, Byte: 7}, {Kind: api.SymMatch, Len: 5, Dist: 1}, {Kind: api.SymShort}, {Kind: api.SymRep, Len: 3}}
	row, errno := lzma2.Build(4096,
		api.Part{Kind: api.ChunkFirst, Raw: []byte("first")},
		api.Part{Kind: api.ChunkProps, Props: props, Symbols: symbols},
		api.Part{Kind: api.ChunkSame, Symbols: symbols},
		api.Part{Kind: api.ChunkRaw, Raw: []byte("raw")},
		api.Part{Kind: api.ChunkState, Symbols: symbols},
		api.Part{Kind: api.ChunkAll, Props: props, Symbols: symbols},
	)
	if errno != api.OK {
		t.Fatalf("Build: error %d", errno)
	}
	seven := "\x07\x07\x07\x07\x07\x07\x07\x07\x07\x07"
	return row, []byte("first" + seven + seven + "raw" + seven + seven)
}

// P25.5, P3: files of others: chunks of all kinds, more padding, told sizes.
func TestBeginningsOfOthers(t *testing.T) {
	t.Parallel()
	row, data := allKinds(t)
	for _, pad := range []int{0, 1, 240} {
		for _, told := range [][2]int{{-1, -1}, {len(row), -1}, {-1, len(data)}, {len(row), len(data)}} {
			one := laid(headed(t, told[0], told[1], pad, lzma(0)), row, nil, len(data))
			f := fileOf(0, one, cut(t, text(30), bare), one)
			wantCut(t, f, 4096)
			wantData(t, f, 4096, join(data, text(30), data))
		}
	}
}
