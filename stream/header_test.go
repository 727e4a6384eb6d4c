package stream_test

import (
	"math"
	"slices"
	"testing"

	"pith/stream"
)

// someFiles: one without a block, one with one, one with several; each kind of a check.
func someFiles(t *testing.T) [][]byte {
	t.Helper()
	var all [][]byte
	for i, kind := range kinds {
		all = append(all, made(t, nil, with(kind, 0, 0, 9)), made(t, text(61), with(kind, i%3, i, 100)), made(t, text(110), with(kind, (i+1)%3, 2*i, 50)))
	}
	return all
}

// P25.2: each of the header's six bytes made each other one.
func TestTheMark(t *testing.T) {
	for _, f := range someFiles(t) {
		for at := range 6 {
			for mask := 1; mask < 256; mask++ {
				wantFault(t, turned(f, at, byte(mask)), 4096, stream.Format, 0)
				wantFault(t, turned(f, at, byte(mask))[:12], 4096, stream.Format, 0)
				wantFault(t, turned(f, at, byte(mask))[:11], 4096, stream.Truncated, 0)
			}
		}
	}
}

// P25.2: each byte of its flags and of their CRC made each other one.
func TestTheFlagsAndTheirSum(t *testing.T) {
	for _, f := range someFiles(t) {
		for at := 6; at < 12; at++ {
			for mask := 1; mask < 256; mask++ {
				wantFault(t, turned(f, at, byte(mask)), 4096, stream.Check, 0)
				wantFault(t, turned(f, at, byte(mask))[:12], 4096, stream.Check, 0)
			}
		}
	}
}

// P25.2: all other flags with the right CRC, whatever stands behind and whatever the limit.
func TestOtherFlags(t *testing.T) {
	for seventh := range 256 {
		for eighth := range 256 {
			if seventh == 0 && slices.Contains(kinds, eighth) || seventh > 1 && eighth > 16 && eighth%37 != 0 {
				continue
			}
			front := headerOf(byte(seventh), byte(eighth))
			wantFault(t, front, 4096, stream.Unsupported, 0)
			wantFault(t, join(front, abcFile()[12:]), math.MinInt, stream.Unsupported, 0)
			wantFault(t, front[:11], 4096, stream.Truncated, 0)
		}
	}
}

// P25.2: a kind that another file has, with the right CRC: what the blocks have is no such check, and the footer tells the kind once more.
func TestAnotherKind(t *testing.T) {
	data := text(60)
	for _, kind := range kinds {
		one, none := made(t, data, with(kind, 1, 0, 100)), made(t, nil, with(kind, 1, 0, 100))
		for _, other := range kinds {
			if other == kind {
				continue
			}
			wantFault(t, join(headerOf(0, byte(other)), none[12:]), 4096, stream.Format, 20)
			if a := wantByWords(t, join(headerOf(0, byte(other)), one[12:]), 4096); a.err == nil {
				t.Errorf("the blocks of kind %d are read by the kind %d", kind, other)
			}
		}
	}
}

// P25.2: no byte at all, and fewer than twelve of any kind.
func TestFewerThanAHeader(t *testing.T) {
	wantFault(t, nil, 4096, stream.Truncated, 0)
	wantFault(t, []byte{}, 4096, stream.Truncated, 0)
	for n := range 12 {
		wantFault(t, make([]byte, n), 4096, stream.Truncated, 0)
		wantFault(t, noise(int64(n), n), 0, stream.Truncated, 0)
		wantFault(t, headerOf(0, 4)[:n], -1, stream.Truncated, 0)
	}
	wantFault(t, make([]byte, 12), 4096, stream.Format, 0)
	wantFault(t, append([]byte{0}, abcFile()...), 4096, stream.Format, 0)
	wantFault(t, append(make([]byte, 4), abcFile()...), 4096, stream.Format, 0)
	wantFault(t, abcFile()[12:], 4096, stream.Format, 0)
}
