package chain_test

import (
	"testing"

	"pith/api"
)

// P20.5: the chapter's examples.
func TestReadOfExamples(t *testing.T) {
	wantRead(t, 0, 4096, filter(33, 0))
	wantRead(t, 256, 4294967295, filter(3, 255), filter(33, 40))
	wantNoRead(t)
	wantNoRead(t, filter(33, 41))
	wantNoRead(t, filter(33))
	wantNoRead(t, filter(33, 0, 0))
	wantNoRead(t, filter(3, 0))
	wantNoRead(t, filter(33, 0), filter(33, 0))
	wantNoRead(t, filter(3, 0), filter(3, 0), filter(33, 0))
	wantNoRead(t, filter(3, 0, 0), filter(33, 0))
	wantNoRead(t, filter(33, 0), filter(3, 0))
	wantNoRead(t, filter(4), filter(33, 0))
}

// P20.5: every byte that LZMA2 can have, and every one of Delta's.
func TestReadOfEachByte(t *testing.T) {
	for b := range 256 {
		if b > 40 {
			wantNoRead(t, lzma(byte(b)))
			wantNoRead(t, apart(1), lzma(byte(b)))
		} else {
			wantRead(t, 0, dicts()[b], lzma(byte(b)))
			wantRead(t, 1, dicts()[b], filter(3, 0), lzma(byte(b)))
		}
		wantRead(t, b+1, 6144, filter(3, byte(b)), lzma(1))
		wantNoRead(t, filter(3, byte(b)))
	}
}

// someFilters: of known and unknown numbers, with no, one and two bytes of properties.
func someFilters() []api.Filter {
	var all []api.Filter
	for _, id := range []uint64{0, 3, 4, 33, 34, 3 + 256, 33 + 128, 33 + 1<<32, 1<<63 + 33, greatest, 1<<64 - 1} {
		all = append(all, filter(id))
		for _, x := range []byte{0, 40, 41, 255} {
			all = append(all, filter(id, x), filter(id, x, 0))
		}
	}
	return all
}

// wantReadByWords: what the chapter's words say of the chain.
func wantReadByWords(t *testing.T, l ...api.Filter) api.Errno {
	t.Helper()
	dist, dict, errno := readByWords(l)
	if errno != api.OK {
		wantNoRead(t, l...)
	} else {
		wantRead(t, dist, dict, l...)
	}
	return errno
}

// P20.5: every chain of one, two and three of these filters.
func TestReadOfChains(t *testing.T) {
	all, right := someFilters(), 0
	count := func(errno api.Errno) {
		if errno == api.OK {
			right++
		}
	}
	for _, a := range all {
		count(wantReadByWords(t, a))
		for _, b := range all {
			count(wantReadByWords(t, a, b))
			for _, c := range all {
				count(wantReadByWords(t, a, b, c))
			}
		}
	}
	if right != 2+4*2 {
		t.Errorf("%d chains are read", right)
	}
}

// P20.5: longer ones, of which the ends would be read.
func TestReadOfLongChains(t *testing.T) {
	for n := 1; n <= 8; n++ {
		var l []api.Filter
		for range n {
			l = append(l, apart(1))
		}
		wantNoRead(t, l...)
		wantReadByWords(t, append(l, lzma(0))...)
		wantNoRead(t, append([]api.Filter{lzma(0)}, l...)...)
		wantNoRead(t, append(append([]api.Filter{lzma(0)}, l...), lzma(0))...)
		wantNoRead(t, append(append(l, lzma(0)), apart(1))...)
	}
	wantNoRead(t, make([]api.Filter, 70000)...)
}

// P20.5, W4: nil and no filters are the same; so are nil and no properties.
func TestReadOfNothing(t *testing.T) {
	wantNoRead(t, []api.Filter(nil)...)
	wantNoRead(t, []api.Filter{}...)
	wantNoRead(t, []api.Filter{lzma(0)}[:0]...)
	wantNoRead(t, api.Filter{})
	wantNoRead(t, api.Filter{ID: 33, Props: []byte{0}[:0]})
	wantNoRead(t, api.Filter{ID: 3, Props: []byte{}}, lzma(0))
}
