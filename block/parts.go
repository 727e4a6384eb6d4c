package block

import (
	"pith/api"
	"pith/chain"
	"pith/check"
	"pith/head"
)

// untold: in the place of a header's size.
const untold = -1

// putHeader: that of a block which a configuration makes.
func putHeader(c api.Config) ([]byte, api.Errno) {
	filters, errno := chain.Of(c)
	if errno != api.OK {
		return nil, errno
	}
	return head.Put(api.Head{Packed: untold, Size: untold, Filters: filters}, 0)
}

// getHeader: the one at the front of b, if the limit allows the dictionary that it tells.
func getHeader(b []byte, mem int) (api.Head, api.Errno) {
	h, errno := head.Get(b)
	if errno != api.OK {
		return api.Head{}, errno
	}
	// Asked here, though chain.Decode asks it too: its place 0 would be the row's, not the header's.
	_, dict, errno := chain.Read(h.Filters...)
	switch {
	case errno != api.OK:
		return api.Head{}, errno
	case dict > mem:
		return api.Head{}, api.ErrMemLimit
	}
	return h, api.OK
}

// getZeros: are the n bytes at the front of b there, and 0?
func getZeros(b []byte, n int) api.Errno {
	if len(b) < n {
		return api.ErrTruncated
	}
	for _, zero := range b[:n] {
		if zero != 0 {
			return api.ErrFormat
		}
	}
	return api.OK
}

// getCheck: how many bytes the data's check at the front of b has.
func getCheck(b []byte, kind int, data []byte) (int, api.Errno) {
	n, errno := check.Size(kind)
	if errno != api.OK {
		return 0, errno
	}
	if len(b) < n {
		return 0, api.ErrTruncated
	}
	return n, check.Same(kind, data, b[:n])
}
