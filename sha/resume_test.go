package sha_test

import (
	"math/rand"
	"testing"

	"pith/api"
	"pith/sha"
)

// P4.6: the chapter's examples.
func TestExamplesOfResume(t *testing.T) {
	h := resumed(t, sha.Sum([]byte("abc")), 64)
	h.Write([]byte("x"))
	wantHash(t, h, 65, sha.Sum([]byte("abc"), sha.Pad(3), []byte("x")))
	for _, sum := range [][32]byte{{}, {31: 1}, sha.Sum(), sha.Sum([]byte("abc"))} {
		noResume(t, sum, 63)
		noResume(t, sum, -64)
	}
}

// P4.6: below 0, no multiple of 64, above 2^60; the edges beside them are taken.
func TestResumeOutside(t *testing.T) {
	sum := summed([]byte("pith"))
	for n := range 1000 {
		if n%64 == 0 {
			wantHash(t, resumed(t, sum, n), n, goneOn(asState(sum), n, nil))
		} else {
			noResume(t, sum, n)
		}
		noResume(t, sum, -1-n)
		noResume(t, sum, maxResume+1+n)
		noResume(t, sum, greatest-n)
		noResume(t, sum, least+n)
	}
	for i := range 60 {
		noResume(t, sum, -1<<i)
		noResume(t, sum, 1<<i+1)
		if i >= 6 {
			wantHash(t, resumed(t, sum, 1<<i), 1<<i, goneOn(asState(sum), 1<<i, nil))
		}
	}
	for _, n := range []int{maxResume - 1, maxResume - 63, maxResume + 64, 1 << 61, 1 << 62, greatest - 63} {
		noResume(t, sum, n)
	}
}

// P4.6: from any state, behind any number of bytes, as the words say, in any pieces.
func TestResumeGoesOn(t *testing.T) {
	r := rand.New(rand.NewSource(461))
	counts := []int{0, 64, 128, 1 << 20, 1 << 29, 1 << 32, 1<<40 + 64, 1<<59 + 192, maxResume - 64, maxResume}
	for _, n := range counts {
		for _, size := range edges {
			state, b := chanceState(r), chanceBytes(r, size)
			h := resumed(t, asBytes(state), n)
			wantHash(t, h, n, goneOn(state, n, nil))
			h.Write(b)
			wantHash(t, h, n+size, goneOn(state, n, b))
			h, cut := resumed(t, asBytes(state), n), r.Intn(size+1)
			h.Write(b[:cut])
			h.Write(b[cut:])
			wantHash(t, h, n+size, goneOn(state, n, b))
		}
	}
}

// P4.6: from the first state, behind no bytes, it is a new one.
func TestResumeAtTheFront(t *testing.T) {
	b := chanceBytes(rand.New(rand.NewSource(462)), 100)
	h := resumed(t, asBytes(firstState), 0)
	wantHash(t, h, 0, summed(nil))
	h.Write(b)
	wantHash(t, h, len(b), summed(b))
}

// P4.6: a sum that is known, gone on with: the bytes, their padding, and more.
func TestResumeOfAKnownSum(t *testing.T) {
	r := rand.New(rand.NewSource(463))
	for m := range 200 {
		b := chanceBytes(r, m)
		pad := sha.Pad(m)
		for _, size := range []int{0, 1, 55, 56, 63, 64, 65, 130} {
			x := chanceBytes(r, size)
			h := resumed(t, sha.Sum(b), m+len(pad))
			h.Write(x)
			wantHash(t, h, m+len(pad)+size, summed(joined(b, pad, x)))
		}
	}
}

// P4.6: gone on with once more, from the sum that came of going on.
func TestResumeOfResumed(t *testing.T) {
	r := rand.New(rand.NewSource(464))
	all := chanceBytes(r, 20)
	h := eaten(all)
	for range 10 {
		pad, x := sha.Pad(h.Len()), chanceBytes(r, r.Intn(150))
		h = resumed(t, h.Sum(), h.Len()+len(pad))
		h.Write(x)
		all = joined(all, pad, x)
		wantHash(t, h, len(all), summed(all))
	}
}

// P4.6, W2: two of one sum know nothing of one another, and an error leaves nothing behind.
func TestResumedKnowNothing(t *testing.T) {
	sum := summed([]byte("abc"))
	g, h := resumed(t, sum, 64), resumed(t, sum, 64)
	g.Write([]byte("pith"))
	noResume(t, sum, 65)
	wantHash(t, h, 64, goneOn(asState(sum), 64, nil))
	h.Write([]byte("path"))
	wantHash(t, g, 68, goneOn(asState(sum), 64, []byte("pith")))
	wantHash(t, h, 68, goneOn(asState(sum), 64, []byte("path")))
	wantHash(t, sha.New(), 0, summed(nil))
	if _, e := sha.Resume(sum, 64); e != api.OK {
		t.Errorf("error %d", e)
	}
}
