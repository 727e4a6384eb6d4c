package stream_test

import (
	"math"
	"testing"

	"pith/api"
	"pith/stream"
)

// limits: ascending.
var limits = []int{math.MinInt, -1 << 40, -4096, -1, 0, 1, 4095, 4096, 6143, 6144, 1<<20 - 1, 1 << 20, 3<<19 + 1, 1<<32 - 2, 1<<32 - 1, 1 << 32, math.MaxInt}

// P25.2, P25.5: the limits 0, of just the dictionary that is told, of one less, below 0, and all others.
func TestTheLimit(t *testing.T) {
	for _, dict := range []struct{ asked, told int }{{4096, 4096}, {4097, 6144}, {6144, 6144}, {6145, 8192}, {1 << 20, 1 << 20}, {1<<20 + 1, 3 << 19}, {api.MaxDict - 1, api.MaxDict}, {api.MaxDict, api.MaxDict}} {
		for _, kind := range kinds {
			c := with(kind, kind%3, kind%2, 50)
			c.Dict = dict.asked
			data := text(120)
			f := made(t, data, c)
			if dict.told > 2*dict.asked {
				t.Fatalf("%d told for %d", dict.told, dict.asked)
			}
			for _, mem := range append([]int{dict.told, dict.told + 1}, limits...) {
				if mem >= dict.told {
					wantData(t, f, mem, data)
				} else {
					wantFault(t, f, mem, stream.MemLimit, 12)
				}
			}
			wantFault(t, f, dict.told-1, stream.MemLimit, 12)
			// A file without a block tells no dictionary.
			none := made(t, nil, c)
			for _, mem := range limits {
				wantRead(t, none, mem, answer{kind: kind})
			}
		}
	}
}

// unlikeDicts: a file whose blocks tell 6144, 4096, 2^32 - 1 and 1 << 20, and where they begin.
func unlikeDicts(t *testing.T) ([]byte, []int, []byte) {
	t.Helper()
	row := []byte{1, 0, 2, 'a', 'b', 'c', 0}
	var l []piece
	at := []int{12}
	for i, told := range []byte{1, 0, 40, 16} {
		p := laid(headed(t, -1, -1, i, lzma(told)), row, nil, 3)
		l = append(l, p)
		at = append(at, at[i]+len(p.b))
	}
	return fileOf(0, l...), at, []byte("abcabcabcabc")
}

// P25.5: the greatest dictionary of several counts, and the first block above the limit is told.
func TestLimitsOfUnlikeBlocks(t *testing.T) {
	f, at, data := unlikeDicts(t)
	for _, mem := range limits {
		switch {
		case mem < 6144:
			wantFault(t, f, mem, stream.MemLimit, at[0])
		case mem < 1<<32-1:
			wantFault(t, f, mem, stream.MemLimit, at[2])
		default:
			wantData(t, f, mem, data)
		}
	}
	wantFault(t, f[:at[2]+20], 6144, stream.MemLimit, at[2])
	wantFault(t, f[:at[2]+19], 6144, stream.Truncated, at[2])
}

// P25.5: of any bytes: what is taken with one limit is taken with every greater one; with a lesser one the answer is the same, or MemLimit.
func TestGreaterAndLesserLimits(t *testing.T) {
	t.Parallel()
	f, _, _ := unlikeDicts(t)
	all := [][]byte{f, abcFile(), emptyFile(), severalBlocks(t), append(f[:len(f):len(f)], 0), nil}
	for at := range f {
		all = append(all, turned(f, at, 1), f[:at])
	}
	for _, b := range all {
		// The one with the greatest limit of all.
		last := decodeByWords(b, math.MaxInt)
		for _, mem := range limits {
			a := wantByWords(t, b, mem)
			if same := a.err == last.err && a.off == last.off && string(a.data) == string(last.data); !same && a.err != stream.MemLimit {
				t.Errorf("%s, %d: %v at %d; with the greatest limit %v at %d", shown(b), mem, a.err, a.off, last.err, last.off)
			}
		}
	}
}
