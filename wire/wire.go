// Package wire: bytes read and written one after the other, within bounds. (Layer 1; the document's chapter 1.)
package wire

// maxWidth: a number of more bytes would not fit a uint64.
const maxWidth = 8

// maxZeros: what Writer.Zeros writes at a time.
const maxZeros = 1 << 16

// counter: how many bytes went by. It is a reader's place and a writer's length, so both embed it.
type counter struct {
	gone int
}

// pass: n more bytes went by.
func (c *counter) pass(n int) { c.gone += n }

// isWidth: may a number have n bytes?
func isWidth(n int) bool { return n >= 1 && n <= maxWidth }

// fresh: the same bytes in memory of its own, without spare room.
func fresh(b []byte) []byte {
	own := make([]byte, len(b))
	copy(own, b)
	return own
}

// Pad: how many bytes are missing to a multiple of four.
func Pad(n int) int {
	if n < 0 {
		return 0
	}
	return (4 - n%4) % 4
}
