package rcdec_test

import (
	"bytes"
	"math/rand"
	"testing"

	"pith/api"
)

// P8.5: Used goes up by the widenings, from five on, and never beyond the bytes that are there.
func TestUsedGoesByWidenings(t *testing.T) {
	r := rand.New(rand.NewSource(851))
	for range 100 {
		b := chanceBytes(r, 5+r.Intn(40))
		p := newPair(t, 3, b...)
		last := 5
		for p.chance(t, r) {
			n := p.d.Used()
			if n < last || n > len(b) {
				t.Fatalf("Used is %d behind %d, of %d bytes", n, last, len(b))
			}
			last = n
		}
	}
}

// P8.5: of eight bits without a probability each eighth reads a byte.
func TestUsedOfDirect(t *testing.T) {
	d := begun(t, make([]byte, 12)...)
	for k := range 62 {
		if want := 5 + k/8; d.Used() != want {
			t.Errorf("behind %d bits Used is %d, want %d", k, d.Used(), want)
		}
		wantDirect(t, d, 1, 0)
	}
	wantEnd(t, d, 12, true)
}

// P8.5: Done needs all bytes read and the code 0: neither alone is enough.
func TestDoneNeedsBoth(t *testing.T) {
	wantEnd(t, begun(t, 0, 0, 0, 0, 0), 5, true)
	wantEnd(t, begun(t, 0, 0, 0, 0, 0, 0), 5, false)
	wantEnd(t, begun(t, 0, 0, 0, 0, 0, 1), 5, false)
	for place := range 32 {
		b := make([]byte, 5)
		b[1+place/8] = 1 << (place % 8)
		wantEnd(t, begun(t, b...), 5, false)
		wantEnd(t, begun(t, append(b, 0)...), 5, false)
	}
	d := begun(t, 0, 0, 0, 0, 0, 1)
	wantDirect(t, d, 8, 0)
	wantEnd(t, d, 6, false)
}

// P8.5: Done between bits: it may come, go and come again, as the code and the bytes stand.
func TestDoneBetweenBits(t *testing.T) {
	d := begun(t, 0, 0x7F, 0xFF, 0xFF, 0xFF)
	wantEnd(t, d, 5, false)
	wantDirect(t, d, 1, 1)
	wantEnd(t, d, 5, true)
	wantDirect(t, d, 6, 0)
	wantEnd(t, d, 5, true)
	noDirect(t, d, 1, api.ErrTruncated)
	wantEnd(t, d, 5, true)

	d = begun(t, 0, 0x01, 0xFF, 0xFF, 0xFF, 0x00)
	wantDirect(t, d, 6, 0)
	wantEnd(t, d, 5, false)
	wantDirect(t, d, 1, 1)
	wantEnd(t, d, 5, false)
	wantDirect(t, d, 1, 0)
	wantEnd(t, d, 6, true)
}

// P8.5: with a code of 0 and of no other, at any range, behind any bits.
func TestDoneOfEveryCode(t *testing.T) {
	r := rand.New(rand.NewSource(852))
	for range 200 {
		a, p := newPath(), 1024
		var steps []int
		for range r.Intn(60) {
			bit := r.Intn(2)
			steps = append(steps, bit)
			a.bit(p, bit)
			p = moved(p, bit)
		}
		for _, code := range []uint64{0, 1, 2, 256, 1 << 16, 1<<24 - 1, a.span - 1} {
			b := a.bytes(code)
			d, s := begun(t, b...), made(t, 1)
			for _, bit := range steps {
				wantBit(t, d, s, 0, bit)
			}
			wantEnd(t, d, len(b), code == 0)
			d, s = begun(t, append(bytes.Clone(b), 0)...), made(t, 1)
			for _, bit := range steps {
				wantBit(t, d, s, 0, bit)
			}
			wantEnd(t, d, len(b), false)
		}
	}
}

// P8.5: asking at the beginning, between bits and twice changes nothing.
func TestAskingChangesNothing(t *testing.T) {
	r := rand.New(rand.NewSource(853))
	for range 30 {
		p := newPair(t, 2, chanceBytes(r, 40)...)
		p.d.Used()
		p.d.Done()
		for p.chance(t, r) {
			for range r.Intn(3) {
				p.d.Used()
				p.d.Done()
			}
			p.same(t)
		}
	}
}
