package stream_test

import (
	"testing"

	"pith/stream"
)

// P25.2: each byte of the footer made each other one, with its CRC as it was: the mark comes first, the CRC then.
func TestTheFooter(t *testing.T) {
	for _, f := range someFiles(t) {
		front := len(f) - 12
		for at := range 12 {
			for mask := 1; mask < 256; mask++ {
				want := stream.Check
				if at >= 10 {
					want = stream.Format
				}
				wantFault(t, turned(f, front+at, byte(mask)), 4096, want, front)
			}
		}
	}
}

// P25.2: all other marks.
func TestTheFootersMark(t *testing.T) {
	f := emptyFile()
	for mark := range 65536 {
		b := withByte(withByte(f, 30, byte(mark)), 31, byte(mark>>8))
		if mark == 0x5A59 {
			wantRead(t, b, 4096, answer{kind: 4})
			continue
		}
		wantFault(t, b, 4096, stream.Format, 20)
	}
}

// P25.2: another size of the index, other flags, another kind than the header's; with the right CRC.
func TestTheFooterWithTheRightSum(t *testing.T) {
	for i, f := range someFiles(t) {
		kind, front := kinds[i/3], len(f)-12
		l := partsOf(t, f)
		size := front - where(l, indexMark)[0]
		for _, other := range []int{4, size - 4, size + 4, 2 * size, size + 1024, size + 1<<32, 1 << 34, front, len(f)} {
			if other >= 4 && other != size {
				wantFault(t, join(f[:front], footerOf(other, 0, byte(kind))), 4096, stream.Format, front)
			}
		}
		for tenth := range 256 {
			if tenth != kind {
				wantFault(t, join(f[:front], footerOf(size, 0, byte(tenth))), 4096, stream.Format, front)
			}
		}
		for ninth := 1; ninth < 256; ninth++ {
			wantFault(t, join(f[:front], footerOf(size, byte(ninth), byte(kind))), 4096, stream.Format, front)
		}
		wantByWords(t, join(f[:front], footerOf(size, 0, byte(kind))), 4096)
	}
}

// P25.2: a footer's faults at once, and one that is not there whole.
func TestFaultsOfTheFooterInOrder(t *testing.T) {
	f := abcFile()
	wrong := join(f[:40], footerOf(16, 0, 4))
	wantFault(t, wrong, 4096, stream.Format, 40)
	wantFault(t, turned(wrong, 40, 1), 4096, stream.Check, 40)
	wantFault(t, turned(turned(wrong, 40, 1), 50, 1), 4096, stream.Format, 40)
	wantFault(t, turned(turned(wrong, 40, 1), 50, 1)[:51], 4096, stream.Truncated, 40)
	// Something behind comes last.
	wantFault(t, append(wrong, 0), 4096, stream.Format, 40)
	wantFault(t, append(turned(f, 41, 1), 0), 4096, stream.Check, 40)
	wantFault(t, append(f, 0), 4096, stream.Format, 52)
}

// P25.5: a byte more behind a file, each one, and more of them; another file.
func TestSomethingBehind(t *testing.T) {
	for _, f := range someFiles(t) {
		for x := range 256 {
			wantFault(t, append(f[:len(f):len(f)], byte(x)), 4096, stream.Format, len(f))
		}
		for _, behind := range [][]byte{make([]byte, 4), make([]byte, 400), f, f[:12], f[len(f)-12:], emptyFile(), noise(3, 50)} {
			wantFault(t, join(f, behind), 4096, stream.Format, len(f))
		}
	}
}
