package lzma2

import (
	"pith/api"
	"pith/lzdec"
)

// unpack: hands the symbols (of a raw chunk none) and the plain bytes of each chunk to keep; answers as read does, or 0 and ErrRange, if a decoder can have no such dictionary.
func unpack(b []byte, dict int, told sizes, keep func(l []api.Symbol, plain []byte)) (int, api.Errno) {
	d, errno := lzdec.New(api.Props{}, dict)
	if errno != api.OK {
		return 0, errno
	}
	m := &memory{of: d}
	return read(b, told, func(c api.Chunk, body []byte) bool {
		// The head's properties are right, else it would have been refused.
		m.begin(c.Kind, c.Props)
		if isRaw(c.Kind) {
			d.Raw(body...)
			keep(nil, body)
			return true
		}
		l, plain, errno := d.Take(body, c.Size)
		if errno != api.OK {
			return false
		}
		keep(l, plain)
		return true
	})
}
