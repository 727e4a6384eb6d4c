package index

import (
	"iter"

	"pith/api"
	"pith/crc"
	"pith/varint"
	"pith/wire"
)

// mark: an index's first byte. In its place a block has the size of its header, which is not 0.
const (
	mark     = 0
	markSize = 1
)

// sumSize: the CRC-32's bytes, an index's last ones.
const sumSize = 4

// numbers: all that an index of these records tells, in its order.
func numbers(l []api.Record) iter.Seq[uint64] {
	return func(yield func(uint64) bool) {
		if !yield(uint64(len(l))) {
			return
		}
		for _, r := range l {
			if !yield(uint64(r.Unpadded)) || !yield(uint64(r.Size)) {
				return
			}
		}
	}
}

// fields: an index, read field by field from the front of b, where more may stand behind it. (No wire.Reader: that would copy what stands behind.) Its steps give up by a panic with an error's number, which Get answers.
type fields struct {
	b  []byte
	at int
}

// reason: the number that a step gave up with. A panic of any other kind is none of a step's, and goes on from here.
func reason(gave any) api.Errno { return gave.(api.Errno) }

// mark: the first byte.
func (f *fields) mark() {
	if f.next(markSize)[0] != mark {
		panic(api.ErrFormat)
	}
}

// records: as many as the number says; each of their fields is held against what is right as soon as it is read.
func (f *fields) records() []api.Record {
	var l []api.Record
	var all sums
	for range f.number() {
		unpadded := f.right(all.takeUnpadded)
		size := f.right(all.takePlain)
		l = append(l, api.Record{Unpadded: unpadded, Size: size})
	}
	return l
}

// right: a number that is taken.
func (f *fields) right(take func(n int) bool) int {
	n := f.number()
	if !take(n) {
		panic(api.ErrFormat)
	}
	return n
}

// number: of one to nine bytes.
func (f *fields) number() int {
	v, n, errno := varint.Get(f.b[f.at:])
	if errno != api.OK {
		panic(errno)
	}
	f.at += n
	return int(v)
}

// zeros: up to a multiple of four.
func (f *fields) zeros() {
	for _, zero := range f.next(wire.Pad(f.at)) {
		if zero != 0 {
			panic(api.ErrFormat)
		}
	}
}

// sum: that of all bytes ahead.
func (f *fields) sum() {
	ahead := f.b[:f.at]
	sum, errno := wire.NewReader(f.next(sumSize)).Low(sumSize)
	switch {
	case errno != api.OK:
		panic(errno)
	case sum != uint64(crc.Sum32(ahead)):
		panic(api.ErrCheck)
	}
}

// next: the n bytes that come.
func (f *fields) next(n int) []byte {
	if len(f.b)-f.at < n {
		panic(api.ErrTruncated)
	}
	f.at += n
	return f.b[f.at-n : f.at]
}
