package stream_test

import (
	"bytes"
	"testing"

	"pith/stream"
)

// threeBlocks: a file of three, of a kind, through a filter or not; its data.
func threeBlocks(t *testing.T, kind, mode, delta int) ([]byte, []byte) {
	t.Helper()
	data := join(text(70), noise(9, 70), slope(30))
	return made(t, data, with(kind, mode, delta, 70)), data
}

// resealed: with the right CRC of the block's header of n bytes at a place.
func resealed(f []byte, at, n int) []byte {
	return join(f[:at], sealed(f[at:at+n-4]...), f[at+n:])
}

// P25.2: each byte of a block's header made each other one, with its CRC as it was.
func TestABlocksHeader(t *testing.T) {
	t.Parallel()
	for _, kind := range kinds {
		f, _ := threeBlocks(t, kind, 0, kind)
		for _, front := range where(partsOf(t, f), blockHeader) {
			for at := front + 1; at < front+12; at++ {
				for _, mask := range masks {
					wantFault(t, turned(f, at, mask), 4096, stream.Check, front)
				}
			}
			// Another size of the header: its CRC stands elsewhere, or there are too few bytes; but 0 is an index's first byte.
			for first := 1; first < 256; first++ {
				switch {
				case first == 2:
				case front+4*(first+1) > len(f):
					wantFault(t, withByte(f, front, byte(first)), 4096, stream.Truncated, front)
				default:
					wantFault(t, withByte(f, front, byte(first)), 4096, stream.Check, front)
				}
			}
			if a := wantByWords(t, withByte(f, front, 0), 4096); a.err != stream.Format || a.off <= front {
				t.Errorf("an index at %d: %v at %d", front, a.err, a.off)
			}
		}
	}
	// No block, no record: the first of the zeros is the filter's number.
	wantFault(t, withByte(abcFile(), 12, 0), 4096, stream.Format, 14)
}

// P25.2: likewise with the right CRC: no flags that are known, no filters that are read, another dictionary, no room.
func TestABlocksHeaderWithTheRightSum(t *testing.T) {
	t.Parallel()
	for _, kind := range kinds {
		f, data := threeBlocks(t, kind, 0, 0)
		for _, front := range where(partsOf(t, f), blockHeader) {
			with := func(at int, x byte) []byte { return resealed(withByte(f, front+at, x), front, 12) }
			for _, flags := range []byte{2, 3, 4, 8, 16, 32, 60} {
				wantByWords(t, with(1, flags), 4096)
			}
			wantFault(t, with(1, 4), 4096, stream.Unsupported, front)
			wantFault(t, with(1, 1), 4096, stream.Unsupported, front)
			wantFault(t, with(2, 0x20), 4096, stream.Unsupported, front)
			wantFault(t, with(2, 0x03), 4096, stream.Unsupported, front)
			wantFault(t, with(3, 0), 4096, stream.Unsupported, front)
			wantFault(t, with(3, 2), 4096, stream.Unsupported, front)
			wantFault(t, with(3, 9), 4096, stream.Format, front)
			wantFault(t, with(4, 41), 1<<40, stream.Unsupported, front)
			wantFault(t, with(4, 1), 6143, stream.MemLimit, front)
			wantData(t, with(4, 1), 6144, data)
			for at := 5; at < 8; at++ {
				wantFault(t, with(at, 1), 4096, stream.Unsupported, front)
			}
			for at := range 8 {
				for _, mask := range masks {
					wantByWords(t, with(at, f[front+at]^mask), 4096)
				}
			}
		}
	}
}

// P25.2: a row at the beginning of each of its parts, in each block.
func TestARow(t *testing.T) {
	t.Parallel()
	for _, c := range shapes(70) {
		data := join(text(70), noise(9, 70), slope(30))
		f := made(t, data, c)
		for _, p := range partsOf(t, f) {
			switch p.what {
			case chunkHead, rowEnd:
				for _, first := range []byte{3, 4, 64, 127} {
					wantFault(t, withByte(f, p.at, first), 4096, stream.Format, p.at)
				}
			case packedBytes:
				wantFault(t, turned(f, p.at, 1), 4096, stream.Format, p.at)
				wantFault(t, withByte(f, p.at-1, 225), 4096, stream.Format, p.at-6)
			case rawBytes:
				a := wantByWords(t, turned(f, p.at, 1), 4096)
				if c.Check == 0 && a.err != nil || c.Check != 0 && a.err != stream.Check {
					t.Errorf("%+v: another raw byte: %v", c, a.err)
				}
			}
		}
	}
}

// P25.2: each zero behind a row made each other byte, and two of them; in each block.
func TestZerosOfBlocks(t *testing.T) {
	t.Parallel()
	met := 0
	for n := 1; n <= 8; n++ {
		for _, kind := range kinds {
			f := made(t, text(2*n), with(kind, 0, 0, n))
			l := partsOf(t, f)
			for _, first := range where(l, blockZeros) {
				for at := first; partAt(l, at) == first; at++ {
					for _, mask := range masks {
						wantFault(t, turned(f, at, mask), 4096, stream.Format, first)
					}
					wantFault(t, turned(turned(f, at, 1), first, 2), 4096, stream.Format, first)
					met++
				}
			}
		}
	}
	if met < 50 {
		t.Errorf("%d zeros were met", met)
	}
}

// P25.6: each byte of each block's check made each other one.
func TestEachByteOfEachCheck(t *testing.T) {
	t.Parallel()
	for _, kind := range kinds[1:] {
		f, _ := threeBlocks(t, kind, 0, kind%2)
		l := partsOf(t, f)
		for _, first := range where(l, theCheck) {
			for at := first; partAt(l, at) == first; at++ {
				for mask := 1; mask < 256; mask++ {
					wantFault(t, turned(f, at, byte(mask)), 4096, stream.Check, first)
				}
			}
		}
	}
}

// P25.6: whatever a check becomes: zeros, all bits, its bytes backwards, another block's.
func TestWhateverACheckBecomes(t *testing.T) {
	for _, kind := range kinds[1:] {
		f, _ := threeBlocks(t, kind, 1, 0)
		n := map[int]int{1: 4, 4: 8, 10: 32}[kind]
		all := where(partsOf(t, f), theCheck)
		for i, first := range all {
			back := bytes.Clone(f[first : first+n])
			for i, x := range f[first : first+n] {
				back[n-1-i] = x
			}
			others := [][]byte{make([]byte, n), bytes.Repeat([]byte{255}, n), back, f[all[(i+1)%3]:][:n]}
			for seed := range 50 {
				others = append(others, noise(int64(seed), n))
			}
			for _, sum := range others {
				wantFault(t, join(f[:first], sum, f[first+n:]), 4096, stream.Check, first)
			}
		}
	}
}

// P25.2: every byte of a file with several blocks turned, in each bit: what the words say; without a check some are read.
func TestEachBit(t *testing.T) {
	t.Parallel()
	met := map[error]int{}
	for _, kind := range kinds {
		f, _ := threeBlocks(t, kind, kind%3, 1)
		for at := range f {
			for _, mask := range masks {
				met[wantByWords(t, turned(f, at, mask), 4096).err]++
			}
		}
	}
	for _, want := range []error{nil, stream.Truncated, stream.Format, stream.Check} {
		if met[want] == 0 {
			t.Errorf("what was met: %v", met)
		}
	}
}

// P25.2: blocks that are left out, that stand twice, that have changed places.
func TestBlocksElsewhere(t *testing.T) {
	one, two, three := cut(t, text(70), bare), cut(t, noise(9, 64), bare), cut(t, text(69), bare)
	right := indexOf(one.r, two.r, three.r)
	header := headerOf(0, 0)
	ahead := len(header) + len(one.b)
	wantData(t, ended(0, join(header, one.b, two.b, three.b), right), 4096, join(text(70), noise(9, 64), text(69)))
	end := ahead + len(two.b)
	wantFault(t, ended(0, join(header, one.b, two.b), right), 4096, stream.Format, end+1)
	wantFault(t, ended(0, join(header, one.b, two.b, three.b, three.b), right), 4096, stream.Format, end+2*len(three.b)+1)
	// The second record is another one's: its unpadded size.
	wantFault(t, ended(0, join(header, one.b, three.b, two.b), right), 4096, stream.Format, end+len(three.b)+4)
	wantFault(t, ended(0, join(header, two.b, one.b, three.b), right), 4096, stream.Format, end+len(three.b)+2)
	// A gap between blocks is no block.
	wantFault(t, ended(0, join(header, one.b, make([]byte, 4), two.b, three.b), right), 4096, stream.Format, ahead+1)
}
