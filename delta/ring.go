package delta

import "pith/api"

// ring: the last bytes, as many as the greatest distance reaches back. Those that have not come are 0, as the bytes ahead of all data.
type ring struct {
	bytes [api.MaxDelta]byte
	next  int
}

// ago: the byte that came dist bytes ago. The greatest distance's lies where the next one will be put.
func (r *ring) ago(dist int) byte {
	return r.bytes[(r.next+len(r.bytes)-dist)%len(r.bytes)]
}

// put: one byte more, in the oldest one's place.
func (r *ring) put(b byte) {
	r.bytes[r.next] = b
	r.next = (r.next + 1) % len(r.bytes)
}
