package chunk

import (
	"pith/api"
	"pith/state"
	"pith/wire"
)

// numKinds: of chunks.
const numKinds = api.ChunkAll + 1

// The forms of a head: what follows its first byte.
const (
	formEnd    = iota // nothing
	formRaw           // a size
	formPacked        // the size's rest, the packed size
	formProps         // likewise, and the properties
)

// forms: of each kind.
var forms = [numKinds]int{formEnd, formRaw, formRaw, formPacked, formPacked, formProps, formProps}

// lengths: how many bytes a head of each form has.
var lengths = [formProps + 1]int{1, 3, 5, 6}

// The first byte of a packed one: packedBit, a kindStep for each kind from ChunkSame on, and those bits of the size less 1 for which two bytes have no room.
const (
	packedBit = 128
	kindStep  = 32
	sizeBits  = 16
)

func isKind(kind int) bool { return kind >= api.ChunkEnd && kind <= api.ChunkAll }

// within: is n from 1 to most?
func within(n, most int) bool { return n >= 1 && n <= most }

// sized: are the sizes such as a chunk of its kind, a known one, may have?
func sized(c api.Chunk) bool {
	switch forms[c.Kind] {
	case formEnd:
		return c.Size == 0 && c.Packed == 0
	case formRaw:
		return within(c.Size, api.MaxRaw) && c.Packed == c.Size
	}
	return within(c.Size, api.MaxChunk) && within(c.Packed, api.MaxPacked)
}

// propsOf: the byte of the properties; 0 where the kind has none, whatever stands there.
func propsOf(c api.Chunk) (int, api.Errno) {
	if forms[c.Kind] != formProps {
		return 0, api.OK
	}
	return state.PropsByte(c.Props)
}

// firstByte: of a chunk whose sizes are right.
func firstByte(c api.Chunk) byte {
	if c.Kind < api.ChunkSame {
		return byte(c.Kind)
	}
	return byte(packedBit + kindStep*(c.Kind-api.ChunkSame) + (c.Size-1)>>sizeBits)
}

// kindOf: the kind that a first byte tells, and whether it tells one.
func kindOf(first int) (int, bool) {
	if first >= packedBit {
		return api.ChunkSame + (first-packedBit)/kindStep, true
	}
	return first, first < api.ChunkSame
}

// written: the head of a chunk that is right, with the byte of its properties.
func written(c api.Chunk, props int) []byte {
	w := wire.NewWriter()
	w.Put(firstByte(c))
	form := forms[c.Kind]
	if form >= formRaw {
		w.High(uint64(c.Size-1), 2)
	}
	if form >= formPacked {
		w.High(uint64(c.Packed-1), 2)
	}
	if form == formProps {
		w.Put(byte(props))
	}
	return w.Bytes()
}

// read: the chunk of that kind whose head b is, whole; ErrFormat, if its last byte is that of no properties.
func read(kind int, b []byte) (api.Chunk, api.Errno) {
	c := api.Chunk{Kind: kind}
	r := wire.NewReader(b)
	first, _ := r.U8()
	form := forms[kind]
	if form >= formRaw {
		c.Size = lessOne(r) + 1
		c.Packed = c.Size
	}
	if form >= formPacked {
		c.Size += (first % kindStep) << sizeBits
		c.Packed = lessOne(r) + 1
	}
	errno := api.OK
	if form == formProps {
		last, _ := r.U8()
		c.Props, errno = state.ByteProps(last)
	}
	return c, errno
}

// lessOne: the next size, less 1. A head is read when it is there whole, so none is missing.
func lessOne(r *wire.Reader) int {
	v, _ := r.High(2)
	return int(v)
}
