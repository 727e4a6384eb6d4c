package crc

import "pith/api"

// half64: what four of a byte's eight steps make of the numbers 0 to 15. (A table of whole bytes would have 256 words.)
var half64 = [16]uint64{
	0x0000000000000000, 0x7D9BA13851336649,
	0xFB374270A266CC92, 0x86ACE348F355AADB,
	0x64B62BCAEBC387A1, 0x192D8AF2BAF0E1E8,
	0x9F8169BA49A54B33, 0xE21AC88218962D7A,
	0xC96C5795D7870F42, 0xB4F7F6AD86B4690B,
	0x325B15E575E1C3D0, 0x4FC0B4DD24D2A599,
	0xADDA7C5F3C4488E3, 0xD041DD676D77EEAA,
	0x56ED3E2F9E224471, 0x2B769F17CF112238,
}

// Sum64: of the pieces, one behind the other.
func Sum64(b ...[]byte) uint64 {
	s := uint64(0)
	for _, piece := range b {
		s = More64(s, piece)
	}
	return s
}

// More64: s, carried on over b.
func More64(s uint64, b []byte) uint64 {
	s = ^s
	for _, x := range b {
		s = put64(s, x)
	}
	return ^s
}

// put64: s with the byte put into it.
func put64(s uint64, x byte) uint64 {
	s ^= uint64(x)
	s = s>>4 ^ half64[s%16]
	return s>>4 ^ half64[s%16]
}

// Join64: of a text with the sum a and, behind it, one of n bytes with the sum b.
func Join64(a, b uint64, n int) (uint64, api.Errno) {
	if !joinable(n) {
		return 0, api.ErrRange
	}
	// More(a, zeros) xor More(0, zeros): what is turned over in both falls out.
	return zeros64(a, n) ^ b, api.OK
}

// Patch64: of n bytes that had this sum, in which was at off has become now.
func Patch64(sum uint64, n, off int, was, now []byte) (uint64, api.Errno) {
	if !patchable(n, off, was, now) {
		return 0, api.ErrRange
	}
	r := uint64(0)
	for i, x := range was {
		r = put64(r, x^now[i])
	}
	return sum ^ zeros64(r, n-off-len(was)), api.OK
}

// zeros64: s with n bytes 0 put into it, by as many steps as n has bits.
func zeros64(s uint64, n int) uint64 {
	step := zero64()
	for n > 0 {
		if n%2 == 1 {
			s = through64(step, s)
		}
		step = twice64(step)
		n /= 2
	}
	return s
}

// zero64: what one byte 0 makes of each bit. Put together by xor, this tells what it makes of any number.
func zero64() [64]uint64 {
	var step [64]uint64
	for i := range step {
		step[i] = put64(1<<i, 0)
	}
	return step
}

// twice64: what twice as many zeros as those of step make of each bit.
func twice64(step [64]uint64) [64]uint64 {
	var double [64]uint64
	for i, s := range step {
		double[i] = through64(step, s)
	}
	return double
}

// through64: what the zeros of step make of s.
func through64(step [64]uint64, s uint64) uint64 {
	r := uint64(0)
	for i := 0; s != 0; i++ {
		if s%2 == 1 {
			r ^= step[i]
		}
		s /= 2
	}
	return r
}
