package rcenc_test

import (
	"math/rand"
	"testing"

	"pith/api"
)

// P7.2: the chapter's examples.
func TestDirectOfTheExamples(t *testing.T) {
	for _, c := range []struct {
		v    uint32
		n    int
		want []byte
	}{
		{1, 1, []byte{0, 0x7F, 0xFF, 0xFF, 0xFF}},
		{5, 3, []byte{0, 0x9F, 0xFF, 0xFF, 0xFE}},
		{0, 8, []byte{0, 0, 0, 0, 0, 0}},
		{1<<32 - 1, 32, []byte{0, 0xFF, 0xFF, 0xFF, 0xF6, 0, 0, 1, 0}},
		{255, 0, []byte{0, 0, 0, 0, 0}},
	} {
		e := begun(t)
		direct(t, e, c.v, c.n)
		wantBytes(t, e, c.want...)
	}
	e := begun(t)
	direct(t, e, 1<<32-1, 32)
	direct(t, e, 1<<32-1, 32)
	wantBytes(t, e, 0, 0xFF, 0xFF, 0xFF, 0xF6, 0xFF, 0xFF, 0xFF, 0xFF, 0, 0, 1, 0)
}

// P7.2: every number of bits, with each bit alone, with all, with none.
func TestDirectOfEveryCount(t *testing.T) {
	for n := 0; n <= 32; n++ {
		values := []uint32{0, 1<<32 - 1, 0x55555555, 0xAAAAAAAA, 0x12345678}
		for k := range 32 {
			values = append(values, 1<<k)
		}
		for _, v := range values {
			e, u := begun(t), newSum()
			direct(t, e, v, n)
			u.direct(v, n)
			wantBytes(t, e, u.bytes()...)
		}
	}
}

// P7.2: the bits of v above the n lowest do not count.
func TestDirectLeavesTheHigherBits(t *testing.T) {
	r := rand.New(rand.NewSource(721))
	for n := range 32 {
		for range 20 {
			low := r.Uint32() & (1<<n - 1)
			e, f := begun(t), begun(t)
			direct(t, e, low, n)
			direct(t, f, low|r.Uint32()<<n, n)
			wantBytes(t, f, e.Bytes()...)
			direct(t, f, 0, 0)
			direct(t, f, 1<<32-1, 0)
			wantBytes(t, f, e.Bytes()...)
		}
	}
}

// P7.2: bits in one call are the same as in several, the highest first.
func TestDirectInPieces(t *testing.T) {
	r := rand.New(rand.NewSource(722))
	for range 300 {
		v, n := r.Uint32(), r.Intn(33)
		e, f := begun(t), begun(t)
		lead := r.Uint32()
		direct(t, e, lead, 7)
		direct(t, f, lead, 7)
		direct(t, e, v, n)
		for left := n; left > 0; {
			k := 1 + r.Intn(left)
			left -= k
			direct(t, f, v>>left, k)
		}
		wantBytes(t, f, e.Bytes()...)
	}
}

// P7.2, W5: a number of bits that is below 0 or above 32 is ErrRange, and nothing has changed.
func TestDirectOfNoCount(t *testing.T) {
	e, s, u := begun(t), made(t, 1), newSum(1024)
	for k := range 30 {
		for _, n := range noCounts {
			for _, v := range []uint32{0, 1, 1<<32 - 1} {
				if errno := e.Direct(v, n); errno != api.ErrRange {
					t.Errorf("Direct(%d, %d): error %d", v, n, errno)
				}
			}
			wantBytes(t, e, u.bytes()...)
		}
		code(t, e, s, 0, k%3)
		u.bit(0, k%3)
		direct(t, e, uint32(k), 5)
		u.direct(uint32(k), 5)
		wantBytes(t, e, u.bytes()...)
	}
}

// P7.1, P7.2: bits with and without a probability in turns by chance.
func TestBothKindsInTurns(t *testing.T) {
	r := rand.New(rand.NewSource(723))
	for range 20 {
		e, s, u := begun(t), made(t, 4), newSum(halves(4)...)
		for range 400 {
			if r.Intn(3) == 0 {
				v, n := r.Uint32(), r.Intn(33)
				direct(t, e, v, n)
				u.direct(v, n)
			} else {
				i, bit := r.Intn(4), chanceBit(r)
				code(t, e, s, i, bit)
				u.bit(i, bit)
			}
			if r.Intn(20) == 0 {
				wantBytes(t, e, u.bytes()...)
			}
		}
		wantBytes(t, e, u.bytes()...)
		wantRow(t, s, u.row)
	}
}

// P7.6: n bits without a probability, and nothing else, have n div 8 and 5 bytes, whatever the bits are and however they are called for.
func TestLengthOfDirectBits(t *testing.T) {
	r := rand.New(rand.NewSource(761))
	for _, kind := range []string{"zeros", "ones", "chance"} {
		e := begun(t)
		for n := range 1200 {
			if got := e.Size(); got != n/8+5 {
				t.Fatalf("%d bits, %s: %d bytes, want %d", n, kind, got, n/8+5)
			}
			if got := len(e.Bytes()); got != n/8+5 {
				t.Fatalf("%d bits, %s: Bytes are %d, want %d", n, kind, got, n/8+5)
			}
			v := uint32(0)
			if kind == "ones" || kind == "chance" && r.Intn(2) == 0 {
				v = 1
			}
			direct(t, e, v, 1)
		}
	}
	e, total := begun(t), 0
	for range 500 {
		n := r.Intn(33)
		direct(t, e, r.Uint32(), n)
		total += n
		if got := e.Size(); got != total/8+5 {
			t.Fatalf("%d bits: %d bytes, want %d", total, got, total/8+5)
		}
	}
}
