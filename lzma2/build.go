package lzma2

import (
	"pith/api"
	"pith/chunk"
	"pith/lzenc"
	"pith/symbol"
)

// packer: symbols become packed chunks, by an encoder that goes on from one to the next.
type packer struct {
	*lzenc.Encoder
	memory
}

// newPacker: with a dictionary of so many bytes; ErrRange, if an encoder can have none such.
func newPacker(dict int) (*packer, api.Errno) {
	e, errno := lzenc.New(api.Props{}, dict)
	if errno != api.OK {
		return nil, errno
	}
	return &packer{Encoder: e, memory: memory{of: e}}, api.OK
}

// packed: the chunk of these symbols.
func (k *packer) packed(kind int, p api.Props, l []api.Symbol) ([]byte, api.Errno) {
	if errno := k.begin(kind, p); errno != api.OK {
		return nil, errno
	}
	size := 0
	for _, y := range l {
		if errno := k.Put(y); errno != api.OK {
			return nil, errno
		}
		size += symbol.Size(y)
	}
	body := k.Cut()
	return joined(api.Chunk{Kind: kind, Size: size, Packed: len(body), Props: p}, body)
}

// joined: a chunk of this head and these bytes, if it has no more of either than a chunk can, nor none.
func joined(c api.Chunk, body []byte) ([]byte, api.Errno) {
	head, errno := chunk.Put(c)
	if errno != api.OK {
		return nil, errno
	}
	return append(head, body...), api.OK
}

// raw: the chunk of these bytes as they are.
func raw(kind int, b []byte) ([]byte, api.Errno) {
	return joined(api.Chunk{Kind: kind, Size: len(b), Packed: len(b)}, b)
}

// ended: the row with its end.
func ended(row []byte) []byte { return append(row, api.ChunkEnd) }

// builder: parts become a row.
type builder struct {
	*packer
	order *chunk.Order
	row   []byte
}

func newBuilder(dict int) (*builder, api.Errno) {
	k, errno := newPacker(dict)
	if errno != api.OK {
		return nil, errno
	}
	return &builder{packer: k, order: chunk.NewOrder()}, api.OK
}

// add: one part more.
func (b *builder) add(part api.Part) api.Errno {
	if part.Kind == api.ChunkEnd {
		return api.ErrConfig
	}
	if errno := b.order.Next(part.Kind); errno != api.OK {
		return errno
	}
	made, errno := b.chunk(part)
	if errno != api.OK {
		return errno
	}
	b.row = append(b.row, made...)
	return api.OK
}

// chunk: of a part whose kind may follow.
func (b *builder) chunk(part api.Part) ([]byte, api.Errno) {
	if !isRaw(part.Kind) {
		return b.packed(part.Kind, part.Props, part.Symbols)
	}
	made, errno := raw(part.Kind, part.Raw)
	if errno != api.OK {
		return nil, errno
	}
	b.begin(part.Kind, api.Props{})
	b.Raw(part.Raw...)
	return made, api.OK
}
