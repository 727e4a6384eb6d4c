package stream_test

import (
	"testing"

	"pith/stream"
)

// wrong: a byte that is turned, and the fault that it makes, where its part ends.
type wrong struct {
	at   int
	mask byte
	want error
	off  int
	end  int
}

// wrongs: one in each part of a file with a CRC-32, in their order; of a part that has several, in theirs.
func wrongs(t *testing.T, f []byte) []wrong {
	t.Helper()
	l := partsOf(t, f)
	all := []wrong{{3, 1, stream.Format, 0, 12}, {9, 1, stream.Check, 0, 12}}
	for i, p := range l {
		end := len(f)
		if i+1 < len(l) {
			end = l[i+1].at
		}
		switch p.what {
		case blockHeader:
			all = append(all, wrong{p.at + 6, 1, stream.Check, p.at, end})
		case chunkHead, rowEnd:
			// Told by the first byte; the rest of the head does not matter.
			all = append(all, wrong{p.at, 0x7C, stream.Format, p.at, p.at + 1})
		case packedBytes:
			all = append(all, wrong{p.at, 1, stream.Format, p.at, end})
		case blockZeros, indexZeros:
			all = append(all, wrong{p.at, 1, stream.Format, p.at, end})
		case theCheck, indexSum:
			all = append(all, wrong{p.at + 1, 1, stream.Check, p.at, end})
		case theCount, unpaddedSize, plainSize:
			all = append(all, wrong{p.at, 1, stream.Format, p.at, end})
		case theFooter:
			all = append(all, wrong{end - 1, 1, stream.Format, p.at, end}, wrong{p.at + 2, 1, stream.Check, p.at, end})
		}
	}
	return all
}

// severalBlocks: a file with a CRC-32, of packed blocks and a raw one, with all parts that there are.
func severalBlocks(t *testing.T) []byte {
	t.Helper()
	f := made(t, join(text(70), noise(3, 70), slope(71), text(2)), with(1, 1, 1, 70))
	l := partsOf(t, f)
	for what := theHeader; what <= theFooter; what++ {
		if len(where(l, what)) == 0 {
			t.Fatalf("%s has no part %d", shown(f), what)
		}
	}
	return f
}

// P25.2, P2: of two faults the first one is the answer, which stands further to the left, or comes first in its part.
func TestTheFirstOfTwoFaults(t *testing.T) {
	t.Parallel()
	f := severalBlocks(t)
	all := wrongs(t, f)
	for i, one := range all {
		spoilt := turned(f, one.at, one.mask)
		wantFault(t, spoilt, 4096, one.want, one.off)
		wantFault(t, append(spoilt, 0), 4096, one.want, one.off)
		for _, other := range all[i+1:] {
			wantFault(t, turned(spoilt, other.at, other.mask), 4096, one.want, one.off)
		}
	}
}

// P25.2: a part that is not there whole is Truncated, whatever is wrong in it; one that is there tells its fault, whatever is missing behind.
func TestFaultsAndMissingBytes(t *testing.T) {
	t.Parallel()
	f := severalBlocks(t)
	l := partsOf(t, f)
	for _, one := range wrongs(t, f) {
		spoilt := turned(f, one.at, one.mask)
		for n := range f {
			switch {
			case n >= one.end:
				wantFault(t, spoilt[:n], 4096, one.want, one.off)
			case n%5 == 0 || n >= one.off:
				wantFault(t, spoilt[:n], 4096, stream.Truncated, partAt(l, n))
			}
		}
	}
}

// P25.2: a dictionary above the limit comes behind what is wrong in the header, and ahead of all behind it.
func TestTheLimitAmongFaults(t *testing.T) {
	f := severalBlocks(t)
	for _, one := range wrongs(t, f) {
		spoilt := turned(f, one.at, one.mask)
		for _, mem := range []int{-1, 0, 4095} {
			if one.off <= 12 {
				wantFault(t, spoilt, mem, one.want, one.off)
				wantFault(t, spoilt[:one.end], mem, one.want, one.off)
				continue
			}
			wantFault(t, spoilt, mem, stream.MemLimit, 12)
			wantFault(t, spoilt[:24], mem, stream.MemLimit, 12)
			wantFault(t, spoilt[:23], mem, stream.Truncated, 12)
		}
	}
}
