package lzma2

import "pith/api"

// coder: what an encoder and a decoder of symbols both can.
type coder interface {
	Reset(p api.Props) api.Errno
	Clear()
}

// memory: what a coder remembers from chunk to chunk. The properties are kept beside it, for a ChunkState names none.
type memory struct {
	of    coder
	props api.Props
}

// begin: what a chunk's kind begins anew ahead of its bytes; the properties are looked at where the kind has some.
func (m *memory) begin(kind int, p api.Props) api.Errno {
	switch kind {
	case api.ChunkFirst:
		m.of.Clear()
	case api.ChunkState:
		return m.of.Reset(m.props)
	case api.ChunkProps:
		return m.renew(p)
	case api.ChunkAll:
		m.of.Clear()
		return m.renew(p)
	}
	return api.OK
}

// renew: what was learnt is forgotten, and these properties hold.
func (m *memory) renew(p api.Props) api.Errno {
	m.props = p
	return m.of.Reset(p)
}

func isRaw(kind int) bool { return kind == api.ChunkFirst || kind == api.ChunkRaw }

// isPacked: no kind at all is not.
func isPacked(kind int) bool { return kind >= api.ChunkSame && kind <= api.ChunkAll }
