package stream

import (
	"pith/api"
	"pith/block"
	"pith/crc"
	"pith/frame"
	"pith/varint"
	"pith/wire"
)

// frameSize: the bytes of a file's header, and those of its footer.
const frameSize = 12

// mark: an index's first byte. In its place a block has the size of its header, which is not 0.
const (
	mark     = 0
	markSize = 1
)

// sumSize: the CRC-32's bytes, an index's last ones.
const sumSize = 4

// reader: a file that is read from the left. Its steps go on from at, and leave it, where they answer an error, at the beginning of the part in which the fault was found.
type reader struct {
	f    []byte
	mem  int
	take func(data []byte) // is handed each block's data, which nobody else has

	at     int
	kind   int
	places []api.Place
	plain  int // plain bytes of these places
	index  int // the index's bytes
}

// read: all of the file, up to the first fault.
func (r *reader) read() api.Errno {
	for _, step := range []func() api.Errno{r.readHeader, r.readBlocks, r.readIndex, r.readFooter, r.readEnd} {
		if errno := step(); errno != api.OK {
			return errno
		}
	}
	return api.OK
}

// rest: what is not read yet.
func (r *reader) rest() []byte { return r.f[r.at:] }

// readHeader: the file's.
func (r *reader) readHeader() api.Errno {
	kind, errno := frame.ReadHeader(r.rest())
	if errno != api.OK {
		return errno
	}
	r.kind = kind
	r.at += frameSize
	return api.OK
}

// readBlocks: up to where the index begins.
func (r *reader) readBlocks() api.Errno {
	for len(r.rest()) > 0 {
		if r.rest()[0] == mark {
			return api.OK
		}
		if errno := r.readBlock(); errno != api.OK {
			return errno
		}
	}
	return api.ErrTruncated
}

// readBlock: one of them.
func (r *reader) readBlock() api.Errno {
	off := r.at
	data, record, n, errno := block.Decode(r.rest(), r.kind, r.mem)
	// With an error this is the place of the fault.
	r.at += n
	if errno != api.OK {
		return errno
	}
	r.places = append(r.places, api.Place{Off: off, Record: record, Start: r.plain})
	r.plain += record.Size
	r.take(data)
	return api.OK
}

// readIndex: field by field, each held against the blocks. (Not by index.Get, which does not tell the place of a fault, and goes on behind a number that is not the blocks'.)
func (r *reader) readIndex() api.Errno {
	front := r.at
	r.at += markSize
	if errno := r.readRecords(); errno != api.OK {
		return errno
	}
	if errno := r.readZeros(wire.Pad(r.at - front)); errno != api.OK {
		return errno
	}
	if errno := r.readSum(r.f[front:r.at]); errno != api.OK {
		return errno
	}
	r.index = r.at - front
	return api.OK
}

// readRecords: how many there are, and each one's sizes.
func (r *reader) readRecords() api.Errno {
	if errno := r.readNumber(len(r.places)); errno != api.OK {
		return errno
	}
	for _, p := range r.places {
		if errno := r.readNumber(p.Record.Unpadded); errno != api.OK {
			return errno
		}
		if errno := r.readNumber(p.Record.Size); errno != api.OK {
			return errno
		}
	}
	return api.OK
}

// readNumber: just this one.
func (r *reader) readNumber(want int) api.Errno {
	v, n, errno := varint.Get(r.rest())
	switch {
	case errno != api.OK:
		return errno
	case v != uint64(want):
		return api.ErrFormat
	}
	r.at += n
	return api.OK
}

// readZeros: n of them.
func (r *reader) readZeros(n int) api.Errno {
	if len(r.rest()) < n {
		return api.ErrTruncated
	}
	for _, zero := range r.rest()[:n] {
		if zero != 0 {
			return api.ErrFormat
		}
	}
	r.at += n
	return api.OK
}

// readSum: the one of the bytes ahead.
func (r *reader) readSum(ahead []byte) api.Errno {
	if len(r.rest()) < sumSize {
		return api.ErrTruncated
	}
	sum, errno := wire.NewReader(r.rest()[:sumSize]).Low(sumSize)
	switch {
	case errno != api.OK:
		return errno
	case sum != uint64(crc.Sum32(ahead)):
		return api.ErrCheck
	}
	r.at += sumSize
	return api.OK
}

// readFooter: the index's size and the kind of the checks once more.
func (r *reader) readFooter() api.Errno {
	kind, size, errno := frame.ReadFooter(r.rest())
	switch {
	case errno != api.OK:
		return errno
	case size != r.index || kind != r.kind:
		return api.ErrFormat
	}
	r.at += frameSize
	return api.OK
}

// readEnd: nothing stands behind.
func (r *reader) readEnd() api.Errno {
	if len(r.rest()) > 0 {
		return api.ErrFormat
	}
	return api.OK
}
