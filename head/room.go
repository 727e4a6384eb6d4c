package head

import (
	"pith/api"
	"pith/chain"
	"pith/varint"
	"pith/wire"
)

// room: what is left of a header's room, read byte by byte. Its steps give up by a panic with an error's number, which Get answers.
type room struct {
	left *wire.Reader
}

// reason: the number that a step gave up with. A panic of any other kind is none of a step's, and goes on from here.
func reason(gave any) api.Errno { return gave.(api.Errno) }

// roomOf: of a header that is there whole.
func roomOf(b []byte) room {
	return room{left: wire.NewReader(b[ahead : len(b)-sumSize])}
}

// head: what the flags say is there, and then zeros alone.
func (r room) head(flags byte) api.Head {
	h := api.Head{Packed: untold, Size: untold}
	if flags&packedTold != 0 {
		h.Packed = r.size(leastPacked)
	}
	if flags&sizeTold != 0 {
		h.Size = r.size(leastSize)
	}
	for range flags&countBits + 1 {
		h.Filters = append(h.Filters, whole(r, chain.Get))
	}
	r.zeros()
	return h
}

// size: a size that is told.
func (r room) size(least int) int {
	n := int(whole(r, varint.Get))
	if n < least {
		panic(api.ErrFormat)
	}
	return n
}

// zeros: all that is left.
func (r room) zeros() {
	for r.left.Left() > 0 {
		if r.next() != 0 {
			panic(api.ErrUnsupported)
		}
	}
}

// whole: what get finds in the bytes that come; it is asked again with one byte more as long as it lacks some. (No such thing's bytes are the beginning of another's.)
func whole[T any](r room, get func(b []byte) (T, int, api.Errno)) T {
	var seen []byte
	for {
		seen = append(seen, r.next())
		v, _, errno := get(seen)
		switch errno {
		case api.OK:
			return v
		case api.ErrTruncated:
			continue
		}
		panic(errno)
	}
}

// next: what the room lacks is no matter of more bytes: it ends where the header says.
func (r room) next() byte {
	x, errno := r.left.U8()
	if errno != api.OK {
		panic(api.ErrFormat)
	}
	return byte(x)
}
