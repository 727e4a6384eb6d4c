package rcdec

import "pith/api"

// The steps give up by a panic with an error's number; the face that began them sets the decoder back, whatever they have changed by then.

// reason: the number that a step gave up with. A panic of any other kind is none of a step's, and goes on from here.
func reason(gave any) api.Errno { return gave.(api.Errno) }

// cut: on which side of bound the code lies; that side is the range then.
func (d *Decoder) cut(bound uint32) int {
	if d.code < bound {
		d.span = bound
		return 0
	}
	d.code -= bound
	d.span -= bound
	return 1
}

// halve: in which half of the range the code lies. The last number of an odd range lies in neither: no encoder comes to it.
func (d *Decoder) halve() uint32 {
	d.span /= 2
	bit := uint32(0)
	if d.code >= d.span {
		d.code -= d.span
		bit = 1
	}
	if d.code >= d.span {
		panic(api.ErrFormat)
	}
	return bit
}

// narrow: a range below it is widened, so that a probability still cuts it finely.
const narrow = 1 << 24

// widen: once is enough: a half has 2^23 numbers at least, and either side of a probability's cut 31 times 2^13.
func (d *Decoder) widen() {
	if d.span < narrow {
		d.span <<= 8
		d.code = d.code<<8 | uint32(d.next())
	}
}

func (d *Decoder) next() byte {
	if d.used == len(d.b) {
		panic(api.ErrTruncated)
	}
	c := d.b[d.used]
	d.used++
	return c
}
