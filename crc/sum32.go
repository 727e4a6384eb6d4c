package crc

import "pith/api"

// half32: what four of a byte's eight steps make of the numbers 0 to 15. (A table of whole bytes would have 256 words.)
var half32 = [16]uint32{
	0x00000000, 0x1DB71064, 0x3B6E20C8, 0x26D930AC,
	0x76DC4190, 0x6B6B51F4, 0x4DB26158, 0x5005713C,
	0xEDB88320, 0xF00F9344, 0xD6D6A3E8, 0xCB61B38C,
	0x9B64C2B0, 0x86D3D2D4, 0xA00AE278, 0xBDBDF21C,
}

// Sum32: of the pieces, one behind the other.
func Sum32(b ...[]byte) uint32 {
	s := uint32(0)
	for _, piece := range b {
		s = More32(s, piece)
	}
	return s
}

// More32: s, carried on over b.
func More32(s uint32, b []byte) uint32 {
	s = ^s
	for _, x := range b {
		s = put32(s, x)
	}
	return ^s
}

// put32: s with the byte put into it.
func put32(s uint32, x byte) uint32 {
	s ^= uint32(x)
	s = s>>4 ^ half32[s%16]
	return s>>4 ^ half32[s%16]
}

// Join32: of a text with the sum a and, behind it, one of n bytes with the sum b.
func Join32(a, b uint32, n int) (uint32, api.Errno) {
	if !joinable(n) {
		return 0, api.ErrRange
	}
	// More(a, zeros) xor More(0, zeros): what is turned over in both falls out.
	return zeros32(a, n) ^ b, api.OK
}

// Patch32: of n bytes that had this sum, in which was at off has become now.
func Patch32(sum uint32, n, off int, was, now []byte) (uint32, api.Errno) {
	if !patchable(n, off, was, now) {
		return 0, api.ErrRange
	}
	r := uint32(0)
	for i, x := range was {
		r = put32(r, x^now[i])
	}
	return sum ^ zeros32(r, n-off-len(was)), api.OK
}

// zeros32: s with n bytes 0 put into it, by as many steps as n has bits.
func zeros32(s uint32, n int) uint32 {
	step := zero32()
	for n > 0 {
		if n%2 == 1 {
			s = through32(step, s)
		}
		step = twice32(step)
		n /= 2
	}
	return s
}

// zero32: what one byte 0 makes of each bit. Put together by xor, this tells what it makes of any number.
func zero32() [32]uint32 {
	var step [32]uint32
	for i := range step {
		step[i] = put32(1<<i, 0)
	}
	return step
}

// twice32: what twice as many zeros as those of step make of each bit.
func twice32(step [32]uint32) [32]uint32 {
	var double [32]uint32
	for i, s := range step {
		double[i] = through32(step, s)
	}
	return double
}

// through32: what the zeros of step make of s.
func through32(step [32]uint32, s uint32) uint32 {
	r := uint32(0)
	for i := 0; s != 0; i++ {
		if s%2 == 1 {
			r ^= step[i]
		}
		s /= 2
	}
	return r
}
