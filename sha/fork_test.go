package sha_test

import (
	"math/rand"
	"testing"

	"pith/sha"
)

// P4.3: a fork has eaten what the first one has, at every length.
func TestFork(t *testing.T) {
	b := chanceBytes(rand.New(rand.NewSource(431)), 200)
	for n := range len(b) {
		h := eaten(b[:n])
		f := h.Fork()
		if f == h {
			t.Fatal("the fork is the same object")
		}
		wantHash(t, f, n, summed(b[:n]))
		wantHash(t, h, n, summed(b[:n]))
	}
}

// P4.3: whichever of the two is written to first, the other stays as it was.
func TestForkKnowsNothing(t *testing.T) {
	r := rand.New(rand.NewSource(432))
	for _, n := range edges {
		for _, m := range edges {
			b, x, y := chanceBytes(r, n), chanceBytes(r, m), chanceBytes(r, m)
			h := eaten(b)
			f := h.Fork()
			f.Write(x)
			wantHash(t, h, n, summed(b))
			h.Write(y)
			wantHash(t, f, n+m, summed(joined(b, x)))
			wantHash(t, h, n+m, summed(joined(b, y)))
			f = h.Fork()
			h.Write(x)
			wantHash(t, f, n+m, summed(joined(b, y)))
			wantHash(t, h, n+m+m, summed(joined(b, y, x)))
		}
	}
}

// P4.3: byte by byte in turn, into blocks that both have begun.
func TestForkInTurn(t *testing.T) {
	r := rand.New(rand.NewSource(433))
	b := chanceBytes(r, 30)
	h := eaten(b)
	f := h.Fork()
	x, y := chanceBytes(r, 100), chanceBytes(r, 100)
	for i := range x {
		h.Write(x[i : i+1])
		f.Write(y[i : i+1])
		wantHash(t, h, 31+i, summed(joined(b, x[:i+1])))
		wantHash(t, f, 31+i, summed(joined(b, y[:i+1])))
	}
}

// P4.3: forks of forks, each written to, by chance.
func TestForksOfForks(t *testing.T) {
	r := rand.New(rand.NewSource(434))
	for range 20 {
		hashes, texts := []*sha.Hash{sha.New()}, [][]byte{nil}
		for range 60 {
			i := r.Intn(len(hashes))
			if r.Intn(3) == 0 {
				hashes = append(hashes, hashes[i].Fork())
				texts = append(texts, joined(texts[i]))
				continue
			}
			b := chanceBytes(r, r.Intn(80))
			hashes[i].Write(b)
			texts[i] = joined(texts[i], b)
		}
		for i, h := range hashes {
			wantHash(t, h, len(texts[i]), summed(texts[i]))
		}
	}
}

// P4.3: a fork of one that was resumed goes on from there.
func TestForkOfResumed(t *testing.T) {
	r := rand.New(rand.NewSource(435))
	state := chanceState(r)
	b, x := chanceBytes(r, 70), chanceBytes(r, 70)
	h := resumed(t, asBytes(state), 640)
	f := h.Fork()
	h.Write(b)
	g := h.Fork()
	g.Write(x)
	wantHash(t, f, 640, goneOn(state, 640, nil))
	wantHash(t, h, 710, goneOn(state, 640, b))
	wantHash(t, g, 780, goneOn(state, 640, joined(b, x)))
}
