package chain_test

import (
	"bytes"
	"testing"

	"pith/api"
	"pith/chain"
)

// numbers: of filters, at the edges.
var numbers = []uint64{0, 1, 3, 4, 33, 126, 127, 128, 129, 300, 16383, 16384, 1 << 32, 1<<56 - 1, 1 << 56, greatest - 1, greatest}

// tooGreat: what is no number.
var tooGreat = []uint64{greatest + 1, greatest + 2, greatest + 34, 1<<63 + 1<<62, 1<<64 - 128, 1<<64 - 2, 1<<64 - 1}

// counts: how many bytes of properties there are, at the edges.
var counts = []int{0, 1, 2, 126, 127, 128, 129, 200, 16383, 16384, 70000}

// P20.1: the chapter's examples.
func TestPutOfExamples(t *testing.T) {
	wantPut(t, filter(33, 1), 0x21, 1, 1)
	wantPut(t, filter(3, 0), 3, 1, 0)
	wantPut(t, filter(300, 7, 8), 0xAC, 2, 2, 7, 8)
	wantPut(t, filter(0), 0, 0)
	if b, errno := chain.Put(filter(1 << 63)); len(b) != 0 || errno != api.ErrRange {
		t.Errorf("Put of 2^63: % X, error %d", b, errno)
	}
}

// P20.1: at the edges of both numbers.
func TestPut(t *testing.T) {
	for i, id := range numbers {
		for k, n := range counts {
			f := filter(id, noise(int64(100*i+k), n)...)
			wantPut(t, f, putByWords(f)...)
		}
	}
	wantPut(t, filter(127, make([]byte, 127)...), append([]byte{0x7F, 0x7F}, make([]byte, 127)...)...)
	wantPut(t, filter(128, make([]byte, 128)...), append([]byte{0x80, 1, 0x80, 1}, make([]byte, 128)...)...)
	wantPut(t, filter(greatest, 9), 0xFF, 0xFF, 0xFF, 0xFF, 0xFF, 0xFF, 0xFF, 0xFF, 0x7F, 1, 9)
}

// P20.1, W4: no properties, whether nil or empty.
func TestPutOfNoProperties(t *testing.T) {
	for _, props := range [][]byte{nil, {}, make([]byte, 0, 9), []byte{1, 2, 3}[:0]} {
		wantPut(t, api.Filter{ID: 33, Props: props}, 0x21, 0)
	}
}

// P20.1: a filter that is not known, and properties that its number does not have, are laid like others.
func TestPutOfAnyFilter(t *testing.T) {
	wantPut(t, filter(33), 33, 0)
	wantPut(t, filter(33, 41), 33, 1, 41)
	wantPut(t, filter(33, 255, 255), 33, 2, 255, 255)
	wantPut(t, filter(3, 1, 2, 3), 3, 3, 1, 2, 3)
	wantPut(t, filter(4, 5, 6, 7, 8), 4, 4, 5, 6, 7, 8)
}

// P20.1: what is above the greatest number, whatever its properties.
func TestPutOfTooGreat(t *testing.T) {
	for _, id := range tooGreat {
		for _, props := range [][]byte{nil, {0}, {1, 2}, make([]byte, 128)} {
			if b, errno := chain.Put(api.Filter{ID: id, Props: props}); len(b) != 0 || errno != api.ErrRange {
				t.Errorf("Put of %d, %d properties: % X, error %d", id, len(props), b, errno)
			}
		}
	}
}

// P20.1: unlike filters have unlike bytes, and none's are the beginning of another's.
func TestFiltersAreApart(t *testing.T) {
	var all [][]byte
	for _, id := range numbers {
		for _, props := range [][]byte{nil, {0}, {1}, {0, 0}, {0, 1}, make([]byte, 128)} {
			b, _ := chain.Put(api.Filter{ID: id, Props: props})
			all = append(all, b)
		}
	}
	for i, a := range all {
		for k, b := range all {
			if i != k && bytes.HasPrefix(a, b) {
				t.Errorf("%s begins as %s", shown(a), shown(b))
			}
		}
	}
}
