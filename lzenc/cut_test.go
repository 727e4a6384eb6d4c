package lzenc_test

import (
	"bytes"
	"math/rand"
	"testing"
)

// P14.4: a new encoder has five bytes, all 0, however often they are cut.
func TestCutOfANewOne(t *testing.T) {
	for _, p := range boundProps {
		e := made(t, p, 4096)
		for range 3 {
			wantNoBits(t, e)
		}
		e.Raw(1, 2, 3)
		wantNoBits(t, e)
		e.Reset(usual)
		wantNoBits(t, e)
		e.Clear()
		wantNoBits(t, e)
	}
}

// P14.4: Size behind each symbol is as many bytes as Cut would answer; asking changes nothing.
func TestSizeBehindEachSymbol(t *testing.T) {
	r := rand.New(rand.NewSource(1441))
	a := newPair(t, usual, 4096)
	for range 400 {
		chance(t, a, r, 1)
		n := a.e.Size()
		if b := a.e.Fork().Cut(); a.e.Size() != n || a.e.Size() != n || len(b) != n {
			t.Fatalf("the size is %d, the bytes are %d", n, len(b))
		}
	}
	a.cut(t)
}

// P14.4: Cut twice: the second time there are no bits.
func TestCutTwice(t *testing.T) {
	a := newPair(t, usual, 4096)
	a.put(t, lit(1), lit(2), match(9, 2), lit(3))
	if b := a.cut(t); len(b) < 8 {
		t.Errorf("% X", b)
	}
	wantNoBits(t, a.e)
	a.w.cut()
	a.same(t)
}

// P14.4: dictionary, state and probabilities stay behind a Cut: what comes later is told by them.
func TestWhatCutLeaves(t *testing.T) {
	for _, a := range situations(t) {
		costs := []int{}
		for _, y := range a.w.panel() {
			n, _ := a.e.Cost(y)
			costs = append(costs, n)
		}
		a.cut(t)
		for i, y := range a.w.panel() {
			if n, _ := a.e.Cost(y); n != costs[i] {
				t.Errorf("the cost of %+v was %d and is %d behind a Cut", y, costs[i], n)
			}
		}
		a.same(t)
	}
}

// P14.4: cut behind each symbol, or at the end alone: the same costs at each place, for what is learnt is the same.
func TestCutEverywhere(t *testing.T) {
	r := rand.New(rand.NewSource(1442))
	whole, parts := newPair(t, usual, 4096), newPair(t, usual, 4096)
	for range 200 {
		y := whole.w.chanceSymbol(r)
		x, _ := whole.e.Cost(y)
		if n, _ := parts.e.Cost(y); n != x {
			t.Fatalf("the cost of %+v is %d and %d", y, x, n)
		}
		whole.put(t, y)
		parts.put(t, y)
		parts.cut(t)
	}
	whole.same(t)
	parts.same(t)
}

// P14.4: the answers of Cut are new memory: written over and lengthened, they are not seen in later ones.
func TestCutIsNewMemory(t *testing.T) {
	r := rand.New(rand.NewSource(1443))
	a := newPair(t, usual, 4096)
	var kept, held [][]byte
	for k := range 60 {
		chance(t, a, r, r.Intn(10))
		f := a.fork()
		b := a.cut(t)
		if k%2 == 0 {
			kept, held = append(kept, b), append(held, bytes.Clone(b))
			b = f.cut(t)
		}
		for i := range b[:cap(b)] {
			b[:cap(b)][i] ^= 0xA5
		}
		_ = append(b, 1, 2, 3)
		if k%2 == 1 {
			f.cut(t)
		}
	}
	a.same(t)
	for i, b := range kept {
		if !bytes.Equal(b, held[i]) {
			t.Errorf("the answer %d has changed behind its call", i)
		}
	}
}
