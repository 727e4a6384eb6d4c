package window

// holds: is the distance in the window?
func (w *Window) holds(dist int) bool {
	return dist >= 1 && dist <= len(w.ring)
}

// back: where in the ring the byte of a distance lies that is in the window.
func (w *Window) back(dist int) int {
	return (w.pos - dist) % w.size
}

// grow: lays the first bytes of b behind the ring, as long as it is shorter than the size; answers the others.
func (w *Window) grow(b []byte) []byte {
	n := min(len(b), w.size-len(w.ring))
	w.ring = append(w.ring, b[:n]...)
	w.pos += n
	return b[n:]
}

// lay: lays bytes over the oldest ones of a ring that is as long as the size, and begins again at its front where it ends. (Of no bytes the ring may be shorter.)
func (w *Window) lay(b []byte) {
	for len(b) > 0 {
		n := copy(w.ring[w.pos%w.size:], b)
		w.pos += n
		b = b[n:]
	}
}

// read: fills b, which is not longer than dist, with the bytes from that distance on; they may go over the ring's end. Answers how many they are.
func (w *Window) read(dist int, b []byte) int {
	n := copy(b, w.ring[w.back(dist):])
	return n + copy(b[n:], w.ring)
}
