package rcenc_test

import (
	"bytes"
	"math/rand"
	"testing"
)

// P7.3: a new encoder has no bits: five zeros.
func TestNewIsEmpty(t *testing.T) {
	e := begun(t)
	wantBytes(t, e, 0, 0, 0, 0, 0)
	wantBytes(t, e, 0, 0, 0, 0, 0)
	direct(t, e, 1, 1)
	wantBytes(t, e, 0, 0x7F, 0xFF, 0xFF, 0xFF)
	wantBytes(t, begun(t), 0, 0, 0, 0, 0)
}

// P7.3: asking at the beginning, between bits and twice changes nothing: one that is asked comes to what one that is not asked comes to.
func TestAskingChangesNothing(t *testing.T) {
	for seed := range int64(20) {
		asked, silent := newPair(t, 3), newPair(t, 3)
		asked.e.Bytes()
		asked.e.Size()
		r, q := rand.New(rand.NewSource(seed)), rand.New(rand.NewSource(seed))
		for k := range 300 {
			asked.chance(t, r)
			silent.chance(t, q)
			for range k % 3 {
				asked.e.Size()
				asked.e.Bytes()
				asked.e.Fork()
			}
		}
		silent.same(t)
		asked.same(t)
		wantBytes(t, asked.e, silent.e.Bytes()...)
	}
}

// P7.3: asked twice, it answers twice the same.
func TestAskedTwice(t *testing.T) {
	r := rand.New(rand.NewSource(736))
	p := newPair(t, 2)
	for range 200 {
		p.chance(t, r)
		if a, b := p.e.Bytes(), p.e.Bytes(); !bytes.Equal(a, b) || p.e.Size() != len(a) || p.e.Size() != len(b) {
			t.Fatalf("% X, and % X; size %d", a, b, p.e.Size())
		}
	}
}

// P7.3: the size grows by the shifts, never falls, and is five at least; the first byte is 0.
func TestSizeGoesByShifts(t *testing.T) {
	r := rand.New(rand.NewSource(737))
	p := newPair(t, 2)
	last := 5
	for range 500 {
		p.chance(t, r)
		n := p.e.Size()
		if n != p.u.shifts+5 || n < last || len(p.e.Bytes()) != n || p.e.Bytes()[0] != 0 {
			t.Fatalf("size %d behind %d, with %d shifts", n, last, p.u.shifts)
		}
		last = n
	}
}

// P7.3, W3: each answer is new memory, spare room too.
func TestAnswersAreNewMemory(t *testing.T) {
	r := rand.New(rand.NewSource(738))
	p := newPair(t, 2)
	for range 200 {
		old := p.e.Bytes()
		kept := bytes.Clone(old)
		spoilt := p.e.Bytes()
		spoil(spoilt)
		if !bytes.Equal(old, kept) {
			t.Fatal("two answers share memory")
		}
		p.same(t)
		p.chance(t, r)
		spoil(spoilt)
		p.same(t)
		if !bytes.Equal(old, kept) {
			t.Fatal("an answer changed behind its call")
		}
	}
}

// spoil: every byte, and every byte of the spare room.
func spoil(b []byte) {
	b = b[:cap(b)]
	for i := range b {
		b[i] = ^b[i]
	}
}

// P7.1: thousands of likely bits lie in some bytes.
func TestManyLikelyBits(t *testing.T) {
	for _, bit := range []int{0, 1} {
		p := newPair(t, 1)
		for range 10000 {
			p.bit(t, 0, bit)
		}
		p.same(t)
		if n := p.e.Size(); n > 60 {
			t.Errorf("10,000 bits %d in %d bytes", bit, n)
		}
	}
}
