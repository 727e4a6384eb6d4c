package crc_test

import (
	"math/rand"
	"testing"

	"pith/crc"
)

// beside: numbers of bytes at the edges that Join and Patch take.
var beside = []int{0, 1, 2, 3, 4, 7, 8, 9, 255, 256, 1<<31 - 1, 1 << 31, 1 << 32, 1<<32 + 1, 1 << 39, 1<<40 - 2, 1<<40 - 1, 1 << 40}

// outside: numbers of bytes that they do not take.
var outside = []int{-1, -2, -1 << 31, -1 << 40, least, least + 1, maxJoin + 1, maxJoin + 2, 1 << 41, 1 << 62, greatest - 1, greatest}

// P3.2: the chapter's examples.
func TestExamplesOfJoining(t *testing.T) {
	w, v := sums()[0], sums()[1]
	w.wantJoin(t, 0x9BE3E0A3, 0x131DA070, 5, 0xCBF43926)
	w.wantJoin(t, 1, 2, 0, 3)
	w.wantJoin(t, 1, 2, 1, 0x77073094)
	w.noJoin(t, 1, 2, -1)
	v.wantJoin(t, 0xCE4E879366B8C328, 0x6971A807C348604B, 5, 0x995DC9BBDF1939FA)
	v.wantJoin(t, 1, 2, 0, 3)
	v.wantJoin(t, 1, 2, 1, 0xB32E4CBE03A75F6D)
	v.noJoin(t, 1, 2, -1)
}

// P3.2: with the n bytes 0 gone through one by one, for all numbers.
func TestJoinByTheWords(t *testing.T) {
	r := rand.New(rand.NewSource(321))
	for _, w := range sums() {
		for n := range 300 {
			z := make([]byte, n)
			for range 8 {
				a, b := w.chance(r), w.chance(r)
				w.wantJoin(t, a, b, n, w.carried(a, z)^w.carried(0, z)^b)
			}
		}
		for i := range w.width {
			z := make([]byte, 1000+i)
			a := uint64(1) << i
			w.wantJoin(t, a, 0, len(z), w.carried(a, z)^w.carried(0, z))
			w.wantJoin(t, 0, a, len(z), a)
		}
	}
}

// P3.2: the sums of two texts become that of both.
func TestJoinOfSums(t *testing.T) {
	all := texts()
	for _, w := range sums() {
		for i, x := range all {
			y := all[(11*i+5)%len(all)]
			w.wantJoin(t, w.sum(x), w.sum(y), len(y), w.carried(0, joined(x, y)))
			w.wantJoin(t, w.sum(x), 0, 0, w.sum(x))
			w.wantJoin(t, 0, w.sum(x), len(x), w.sum(x))
		}
	}
}

// P3.2: at great n, and beside the greatest, by the product of polynomials.
func TestJoinOfMany(t *testing.T) {
	r := rand.New(rand.NewSource(322))
	for _, w := range sums() {
		for _, n := range beside {
			for range 20 {
				a, b := w.chance(r), w.chance(r)
				w.wantJoin(t, a, b, n, w.zeros(a, n)^b)
			}
		}
		for i := range 41 {
			w.wantJoin(t, w.ones(), 0, 1<<i, w.zeros(w.ones(), 1<<i))
		}
		for range 300 {
			a, b, n := w.chance(r), w.chance(r), r.Intn(maxJoin+1)
			w.wantJoin(t, a, b, n, w.zeros(a, n)^b)
		}
	}
}

// P3.2: zeros behind zeros, however they are cut.
func TestJoinInTwoSteps(t *testing.T) {
	r := rand.New(rand.NewSource(323))
	for _, w := range sums() {
		for range 200 {
			a, n := w.chance(r), r.Intn(maxJoin+1)
			m := r.Intn(n + 1)
			half, _ := w.join(a, 0, m)
			whole, _ := w.join(a, 0, n)
			w.wantJoin(t, half, 0, n-m, whole)
		}
	}
}

// P3.2: n below 0 or above the most.
func TestJoinOutside(t *testing.T) {
	for _, w := range sums() {
		for _, n := range outside {
			w.noJoin(t, 1, 2, n)
			w.noJoin(t, 0, 0, n)
			w.noJoin(t, w.ones(), w.ones(), n)
		}
	}
}

// P3.3: the chapter's examples.
func TestExamplesOfPatching(t *testing.T) {
	w, v := sums()[0], sums()[1]
	w.wantPatch(t, 0x0547DAB7, 4, 1, []byte("i"), []byte("a"), 0x0B548B0F)
	v.wantPatch(t, 0xD6ABD2EB40D4789E, 4, 1, []byte("i"), []byte("a"), 0xBC2C779464890843)
	for _, x := range sums() {
		x.noPatch(t, 5, 4, 3, []byte("ab"), []byte("cd"))
		x.wantPatch(t, 5, 4, 4, nil, nil, 5)
	}
}

// P3.3: a piece of a text becomes another, at every place and of every length.
func TestPatchOfTexts(t *testing.T) {
	r := rand.New(rand.NewSource(331))
	for _, w := range sums() {
		for n := range 30 {
			b := chanceBytes(r, n)
			sum := w.sum(b)
			for off := range n + 1 {
				for end := off; end <= n; end++ {
					now := chanceBytes(r, end-off)
					want := w.carried(0, joined(b[:off], now, b[end:]))
					w.wantPatch(t, sum, n, off, b[off:end], now, want)
				}
			}
		}
	}
}

// P3.3: by its words, of any number, not of a sum alone, whether or not was stands there.
func TestPatchByTheWords(t *testing.T) {
	r := rand.New(rand.NewSource(332))
	for _, w := range sums() {
		for range 3000 {
			off, size, rest := r.Intn(50), r.Intn(50), r.Intn(50)
			sum, was, now := w.chance(r), chanceBytes(r, size), chanceBytes(r, size)
			diff := make([]byte, size+rest)
			for i := range was {
				diff[i] = was[i] ^ now[i]
			}
			w.wantPatch(t, sum, off+size+rest, off, was, now, sum^w.put(0, diff...))
		}
	}
}

// P3.3: among many bytes, at the front, in the middle and at the very end.
func TestPatchAmongMany(t *testing.T) {
	r := rand.New(rand.NewSource(333))
	for _, w := range sums() {
		for _, n := range beside {
			size := min(n, 9)
			was, now := chanceBytes(r, size), chanceBytes(r, size)
			diff := make([]byte, size)
			for i := range was {
				diff[i] = was[i] ^ now[i]
			}
			for _, off := range []int{0, (n - size) / 2, n - size} {
				sum := w.chance(r)
				w.wantPatch(t, sum, n, off, was, now, sum^w.zeros(w.put(0, diff...), n-off-size))
			}
		}
	}
}

// P3.3: nothing becomes nothing: at every place, the end too.
func TestPatchOfNothing(t *testing.T) {
	r := rand.New(rand.NewSource(334))
	for _, w := range sums() {
		for _, n := range beside {
			for _, off := range []int{0, n / 2, n} {
				sum := w.chance(r)
				w.wantPatch(t, sum, n, off, nil, nil, sum)
				w.wantPatch(t, sum, n, off, []byte{}, nil, sum)
				w.wantPatch(t, sum, n, off, nil, []byte{}, sum)
			}
			for _, off := range []int{n + 1, n + 2, greatest, -1, least} {
				w.noPatch(t, 5, n, off, nil, nil)
			}
		}
	}
}

// P3.3: bytes that become what they were.
func TestPatchWithTheSame(t *testing.T) {
	r := rand.New(rand.NewSource(335))
	for _, w := range sums() {
		for range 200 {
			b, sum := chanceBytes(r, r.Intn(40)), w.chance(r)
			w.wantPatch(t, sum, maxJoin, r.Intn(1<<39), b, b, sum)
			w.wantPatch(t, sum, len(b), 0, b, b, sum)
		}
	}
}

// P3.3: what is asked for is not there.
func TestPatchOutside(t *testing.T) {
	a, b, none := []byte("a"), []byte("b"), []byte{}
	ab, cd := []byte("ab"), []byte("cd")
	for _, w := range sums() {
		for _, n := range outside {
			w.noPatch(t, 5, n, 0, a, b)
			w.noPatch(t, 5, n, 0, nil, nil)
			w.noPatch(t, 5, n, n, nil, nil)
			w.noPatch(t, 5, n, n, a, b)
			w.noPatch(t, 5, n, n-1, a, b)
		}
		for _, off := range []int{-1, -2, least, least + 1} {
			w.noPatch(t, 5, 4, off, a, b)
			w.noPatch(t, 5, 4, off, ab, cd)
			w.noPatch(t, 5, maxJoin, off, a, b)
		}
		// Where off and the length together are just above n, and far above, where their sum would wrap.
		for _, n := range beside {
			for _, off := range []int{n, n + 1, maxJoin + 1, greatest - 1, greatest} {
				w.noPatch(t, 5, n, off, a, b)
			}
			for _, off := range []int{max(0, n-1), n, greatest - 1, greatest} {
				w.noPatch(t, 5, n, off, ab, cd)
			}
		}
		w.noPatch(t, 5, 0, 0, a, b)
		w.noPatch(t, 5, 1, 0, ab, cd)
		// Two lengths, with room for either.
		w.noPatch(t, 5, 8, 2, ab, b)
		w.noPatch(t, 5, 8, 2, a, cd)
		w.noPatch(t, 5, 8, 2, none, b)
		w.noPatch(t, 5, 8, 2, a, nil)
		w.noPatch(t, 0, 8, 8, nil, b)
	}
}

// P3.3: the room behind was and now is none of them.
func TestPatchLooksAtNoRoom(t *testing.T) {
	was, now := []byte("iroom")[:1], []byte("aspace")[:1]
	if s, e := crc.Patch32(0x0547DAB7, 4, 1, was, now); s != 0x0B548B0F || e != 0 {
		t.Errorf("Patch32: %08X, error %d", s, e)
	}
	for _, w := range sums() {
		w.noPatch(t, 5, 8, 0, []byte("abcd")[:1], []byte("abcd")[:2])
		w.wantPatch(t, 5, 8, 0, []byte("abcd")[:0], []byte("efg")[:0], 5)
	}
}
