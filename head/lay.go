package head

import (
	"pith/api"
	"pith/chain"
	"pith/crc"
	"pith/varint"
	"pith/wire"
)

// mayBeTold: is n a size that can be told, or not told?
func mayBeTold(n, least int) bool { return n == untold || n >= least }

// inner: a header's bytes between the first one and the zeros.
func inner(h api.Head) ([]byte, api.Errno) {
	flags, sizes, errno := toldSizes(h)
	if errno != api.OK {
		return nil, errno
	}
	b := append([]byte{flags + byte(len(h.Filters)-1)}, sizes...)
	for _, f := range h.Filters {
		x, errno := chain.Put(f)
		if errno != api.OK {
			return nil, errno
		}
		b = append(b, x...)
	}
	return b, api.OK
}

// toldSizes: the flags and the bytes of the sizes that are told.
func toldSizes(h api.Head) (byte, []byte, api.Errno) {
	var flags byte
	var b []byte
	for _, size := range []struct {
		n    int
		flag byte
	}{{h.Packed, packedTold}, {h.Size, sizeTold}} {
		if size.n == untold {
			continue
		}
		x, errno := varint.Put(uint64(size.n))
		if errno != api.OK {
			return 0, nil, errno
		}
		flags += size.flag
		b = append(b, x...)
	}
	return flags, b, api.OK
}

// wordsOf: how many words a header has at least.
func wordsOf(inner []byte) int {
	n := 1 + len(inner) + sumSize
	return (n + wire.Pad(n)) / word
}

// sealed: a header of so many words, with zeros as far as the sum.
func sealed(inner []byte, words int) []byte {
	w := wire.NewWriter()
	w.Put(byte(words - 1))
	w.Put(inner...)
	w.Zeros(word*words - sumSize - w.Len())
	w.Low(uint64(crc.Sum32(w.Bytes())), sumSize)
	return w.Bytes()
}
