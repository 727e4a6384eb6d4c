package sha

import "math/bits"

// first: the state ahead of the first block: of the square roots of the first eight primes, the 32 bits behind the point.
var first = [8]uint32{
	0x6A09E667, 0xBB67AE85, 0x3C6EF372, 0xA54FF53A, 0x510E527F, 0x9B05688C, 0x1F83D9AB, 0x5BE0CD19,
}

// constants: one a round: of the cube roots of the first 64 primes, the 32 bits behind the point.
var constants = [64]uint32{
	0x428A2F98, 0x71374491, 0xB5C0FBCF, 0xE9B5DBA5, 0x3956C25B, 0x59F111F1, 0x923F82A4, 0xAB1C5ED5,
	0xD807AA98, 0x12835B01, 0x243185BE, 0x550C7DC3, 0x72BE5D74, 0x80DEB1FE, 0x9BDC06A7, 0xC19BF174,
	0xE49B69C1, 0xEFBE4786, 0x0FC19DC6, 0x240CA1CC, 0x2DE92C6F, 0x4A7484AA, 0x5CB0A9DC, 0x76F988DA,
	0x983E5152, 0xA831C66D, 0xB00327C8, 0xBF597FC7, 0xC6E00BF3, 0xD5A79147, 0x06CA6351, 0x14292967,
	0x27B70A85, 0x2E1B2138, 0x4D2C6DFC, 0x53380D13, 0x650A7354, 0x766A0ABB, 0x81C2C92E, 0x92722C85,
	0xA2BFE8A1, 0xA81A664B, 0xC24B8B70, 0xC76C51A3, 0xD192E819, 0xD6990624, 0xF40E3585, 0x106AA070,
	0x19A4C116, 0x1E376C08, 0x2748774C, 0x34B0BCB5, 0x391C0CB3, 0x4ED8AA4A, 0x5B9CCA4F, 0x682E6FF3,
	0x748F82EE, 0x78A5636F, 0x84C87814, 0x8CC70208, 0x90BEFFFA, 0xA4506CEB, 0xBEF9A3F7, 0xC67178F2,
}

// Step: the state behind a block.
func Step(state [8]uint32, block [64]byte) [8]uint32 {
	after := rounds(state, spread(block))
	for i := range state {
		state[i] += after[i]
	}
	return state
}

// spread: the block's sixteen words, and those that come of them, one a round.
func spread(block [64]byte) [64]uint32 {
	var words [64]uint32
	for t := range 16 {
		words[t] = uint32(block[4*t])<<24 | uint32(block[4*t+1])<<16 | uint32(block[4*t+2])<<8 | uint32(block[4*t+3])
	}
	for t := 16; t < 64; t++ {
		x, y := words[t-2], words[t-15]
		s1 := rotated(x, 17) ^ rotated(x, 19) ^ x>>10
		s0 := rotated(y, 7) ^ rotated(y, 18) ^ y>>3
		words[t] = s1 + words[t-7] + s0 + words[t-16]
	}
	return words
}

// rounds: the eight words behind the 64 rounds.
func rounds(state [8]uint32, words [64]uint32) [8]uint32 {
	a, b, c, d := state[0], state[1], state[2], state[3]
	e, f, g, h := state[4], state[5], state[6], state[7]
	for t := range 64 {
		s1 := rotated(e, 6) ^ rotated(e, 11) ^ rotated(e, 25)
		choice := e&f ^ ^e&g
		t1 := h + s1 + choice + constants[t] + words[t]
		s0 := rotated(a, 2) ^ rotated(a, 13) ^ rotated(a, 22)
		most := a&b ^ a&c ^ b&c
		a, b, c, d, e, f, g, h = t1+s0+most, a, b, c, d+t1, e, f, g
	}
	return [8]uint32{a, b, c, d, e, f, g, h}
}

// rotated: x's bits n places further down, those that fall out come in at the top.
func rotated(x uint32, n int) uint32 {
	return bits.RotateLeft32(x, -n)
}
