package sha_test

import (
	"bytes"
	"encoding/binary"
	"encoding/hex"
	"math/big"
	"math/rand"
	"strings"
	"testing"

	"pith/api"
	"pith/sha"
)

// maxResume: the most bytes that Resume takes.
const maxResume = 1 << 60

// The greatest and the least int.
const (
	greatest = 1<<63 - 1
	least    = -1 << 63
)

// edges: lengths beside those at which a block is full, or its padding goes into one more.
var edges = []int{0, 1, 54, 55, 56, 57, 62, 63, 64, 65, 118, 119, 120, 121, 127, 128, 129, 191, 192, 193}

// firstState, roundWords: reckoned from the primes, as the chapter's words say, not from its numbers.
var (
	firstState = [8]uint32(roots(8, 2))
	roundWords = [64]uint32(roots(64, 3))
)

// roots: of the first n primes the roots of that power: the first 32 bits behind the point.
func roots(n, power int) []uint32 {
	words := []uint32{}
	for p := int64(2); len(words) < n; p++ {
		if big.NewInt(p).ProbablyPrime(20) {
			words = append(words, uint32(root(p, power)))
		}
	}
	return words
}

// root: 2^32 times p's root of that power, without what stands behind the point.
func root(p int64, power int) int64 {
	goal := new(big.Int).Lsh(big.NewInt(p), uint(32*power))
	low, high := int64(0), p<<32
	for low < high {
		middle := (low + high + 1) / 2
		if new(big.Int).Exp(big.NewInt(middle), big.NewInt(int64(power)), nil).Cmp(goal) <= 0 {
			low = middle
		} else {
			high = middle - 1
		}
	}
	return low
}

// turn: x rotated by n, by division.
func turn(x uint32, n int) uint32 {
	cut := uint64(1) << n
	return uint32(uint64(x)/cut + uint64(x)%cut*(1<<32/cut))
}

// choose: f's bits where e has a 1, else g's.
func choose(e, f, g uint32) uint32 {
	r := uint32(0)
	for i := range 32 {
		if e>>i%2 == 1 {
			r += f >> i % 2 << i
		} else {
			r += g >> i % 2 << i
		}
	}
	return r
}

// most: the bits that at least two of the three have.
func most(a, b, c uint32) uint32 {
	r := uint32(0)
	for i := range 32 {
		if a>>i%2+b>>i%2+c>>i%2 >= 2 {
			r += 1 << i
		}
	}
	return r
}

// stepped: the step's state, by the words of the chapter.
func stepped(state [8]uint32, block []byte) [8]uint32 {
	w := []uint32{}
	for t := range 64 {
		if t < 16 {
			w = append(w, binary.BigEndian.Uint32(block[4*t:]))
			continue
		}
		s1 := turn(w[t-2], 17) ^ turn(w[t-2], 19) ^ w[t-2]/(1<<10)
		s0 := turn(w[t-15], 7) ^ turn(w[t-15], 18) ^ w[t-15]/(1<<3)
		w = append(w, s1+w[t-7]+s0+w[t-16])
	}
	v := state
	for t := range 64 {
		t1 := v[7] + (turn(v[4], 6) ^ turn(v[4], 11) ^ turn(v[4], 25)) + choose(v[4], v[5], v[6]) + roundWords[t] + w[t]
		t2 := (turn(v[0], 2) ^ turn(v[0], 13) ^ turn(v[0], 22)) + most(v[0], v[1], v[2])
		v = [8]uint32{t1 + t2, v[0], v[1], v[2], v[3] + t1, v[4], v[5], v[6]}
	}
	for i := range v {
		v[i] += state[i]
	}
	return v
}

// padding: behind n bytes, by the words of the chapter.
func padding(n int) []byte {
	p := []byte{0x80}
	for (uint64(n)+uint64(len(p))+8)%64 != 0 {
		p = append(p, 0)
	}
	return binary.BigEndian.AppendUint64(p, 8*uint64(n))
}

// goneOn: the sum of one that has eaten n bytes, has come to that state, and eats b.
func goneOn(state [8]uint32, n int, b []byte) [32]byte {
	all := joined(b, padding(n+len(b)))
	for ; len(all) > 0; all = all[64:] {
		state = stepped(state, all)
	}
	return asBytes(state)
}

// summed: the sum of b, by the words of the chapter.
func summed(b []byte) [32]byte {
	return goneOn(firstState, 0, b)
}

// asBytes: a state's words, each highest byte first.
func asBytes(state [8]uint32) [32]byte {
	b := []byte{}
	for _, w := range state {
		b = binary.BigEndian.AppendUint32(b, w)
	}
	return [32]byte(b)
}

// asState: the state that a sum's bytes are.
func asState(sum [32]byte) [8]uint32 {
	var state [8]uint32
	for i := range state {
		state[i] = binary.BigEndian.Uint32(sum[4*i:])
	}
	return state
}

// written: a sum as the chapter's table writes it.
func written(t *testing.T, text string) [32]byte {
	t.Helper()
	b, err := hex.DecodeString(strings.ReplaceAll(text, " ", ""))
	if err != nil || len(b) != 32 {
		t.Fatalf("%q is no sum", text)
	}
	return [32]byte(b)
}

// joined: the pieces, one behind the other, in memory of their own.
func joined(pieces ...[]byte) []byte {
	return bytes.Join(pieces, nil)
}

// chanceBytes: n bytes.
func chanceBytes(r *rand.Rand, n int) []byte {
	b := make([]byte, n)
	r.Read(b)
	return b
}

// chanceState: eight words, often ones at the edges.
func chanceState(r *rand.Rand) [8]uint32 {
	var state [8]uint32
	for i := range state {
		switch r.Intn(4) {
		case 0:
			state[i] = []uint32{0, 1, 1 << 31, 1<<31 - 1, 1<<32 - 1}[r.Intn(5)]
		case 1:
			state[i] = 1 << r.Intn(32)
		default:
			state[i] = r.Uint32()
		}
	}
	return state
}

// eaten: a new Hash with these pieces written to it.
func eaten(pieces ...[]byte) *sha.Hash {
	h := sha.New()
	for _, p := range pieces {
		h.Write(p)
	}
	return h
}

// wantHash: its sum and its length, and once more: asking changes nothing.
func wantHash(t *testing.T, h *sha.Hash, size int, sum [32]byte) {
	t.Helper()
	for range 2 {
		if got := h.Sum(); got != sum || h.Len() != size {
			t.Fatalf("sum %x of %d bytes, want %x of %d", got, h.Len(), sum, size)
		}
	}
}

func wantSum(t *testing.T, want [32]byte, pieces ...[]byte) {
	t.Helper()
	if got := sha.Sum(pieces...); got != want {
		t.Errorf("Sum(%.40q): %x, want %x", pieces, got, want)
	}
}

// resumed: what Resume answers where it takes n.
func resumed(t *testing.T, sum [32]byte, n int) *sha.Hash {
	t.Helper()
	h, e := sha.Resume(sum, n)
	if h == nil || e != api.OK {
		t.Fatalf("Resume(%x, %d): %v, error %d", sum, n, h, e)
	}
	return h
}

// noResume: ErrRange, and the Hash is nil.
func noResume(t *testing.T, sum [32]byte, n int) {
	t.Helper()
	if h, e := sha.Resume(sum, n); h != nil || e != api.ErrRange {
		t.Errorf("Resume(%x, %d): %v, error %d", sum, n, h, e)
	}
}

// fill: every byte of b and of the room behind it.
func fill(b []byte, x byte) {
	b = b[:cap(b)]
	for i := range b {
		b[i] = x
	}
}
