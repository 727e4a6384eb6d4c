package head

import (
	"pith/api"
	"pith/crc"
	"pith/wire"
)

// The flags: the number of filters less 1, four bits that are 0, and which sizes are told.
const (
	countBits  = 3
	spareBits  = 4 + 8 + 16 + 32
	packedTold = 64
	sizeTold   = 128
)

// maxFilters: as many as the flags can tell.
const maxFilters = countBits + 1

// untold: in the place of a size.
const untold = -1

// The least sizes that can be told: even the end of a row is a packed byte.
const (
	leastPacked = 1
	leastSize   = 0
)

// A header is made of words; its first byte tells how many, less 1.
const (
	word     = 4
	maxWords = 256
)

// ahead: the bytes of a header ahead of its room.
const ahead = 2

// sumSize: the CRC-32's bytes, a header's last ones.
const sumSize = 4

// front: the header at the front of b, alone: it is there whole, its sum is right, and so are the flags that are 0.
func front(b []byte) ([]byte, api.Errno) {
	switch {
	case len(b) == 0:
		return nil, api.ErrTruncated
	case b[0] == 0:
		return nil, api.ErrFormat
	}
	n := word * (int(b[0]) + 1)
	if len(b) < n {
		return nil, api.ErrTruncated
	}
	b = b[:n]
	switch {
	case !isSummed(b):
		return nil, api.ErrCheck
	case b[1]&spareBits != 0:
		return nil, api.ErrUnsupported
	}
	return b, api.OK
}

// isSummed: are the last four bytes the CRC-32 of those ahead of them?
func isSummed(b []byte) bool {
	at := len(b) - sumSize
	sum, errno := wire.NewReader(b[at:]).Low(sumSize)
	return errno == api.OK && sum == uint64(crc.Sum32(b[:at]))
}
