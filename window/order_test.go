package window_test

import (
	"bytes"
	"math/rand"
	"testing"

	"pith/api"
)

// P10.6: a small and a great window with the same bytes tell the same of every distance that is in both, and copy the same.
func TestSmallAndGreat(t *testing.T) {
	r := rand.New(rand.NewSource(1061))
	for _, small := range smallSizes {
		for _, great := range []int{small, small + 1, 2*small + 1, 3000, api.MaxTold} {
			a, b := made(t, small), made(t, great)
			for range 60 {
				piece := chanceBytes(r, r.Intn(2*small+3))
				a.Put(piece...)
				b.Put(piece...)
				both := min(a.Full(), b.Full())
				wantSameLast(t, a, b, both)
				if both == 0 {
					continue
				}
				d, n := 1+r.Intn(both), lengths[r.Intn(len(lengths))]
				if x, y := copied(t, a, d, n), copied(t, b, d, n); !bytes.Equal(x, y) {
					t.Fatalf("sizes %d, %d: Copy(%d, %d): % X and % X", small, great, d, n, x, y)
				}
			}
			wantSameLast(t, a, b, min(a.Full(), b.Full()))
			if a.Pos() != b.Pos() {
				t.Errorf("Pos is %d and %d", a.Pos(), b.Pos())
			}
		}
	}
}

// teller: what tells of a distance.
type teller interface {
	Last(dist int) (byte, api.Errno)
}

// wantSameLast: of every distance up to that.
func wantSameLast(t *testing.T, a, b teller, most int) {
	t.Helper()
	for d := 1; d <= most; d++ {
		x, e := a.Last(d)
		y, f := b.Last(d)
		if x != y || e != f || e != 0 {
			t.Fatalf("Last(%d): %d and %d, errors %d and %d", d, x, y, e, f)
		}
	}
}

// P10.7: what Copy answers repeats every d bytes, and begins with the d last bytes of before.
func TestCopyRepeats(t *testing.T) {
	r := rand.New(rand.NewSource(1071))
	for _, size := range sizes {
		w := made(t, size)
		w.Put(chanceBytes(r, 700)...)
		for _, d := range []int{1, 2, 3, 4, 5, 16, 17, 136, 137, 271, 272, 273, 274, 500, w.Full()} {
			if d > w.Full() {
				continue
			}
			for _, n := range lengths {
				before := make([]byte, d)
				for i := range before {
					before[i], _ = w.Last(d - i)
				}
				got := copied(t, w, d, n)
				for i := range got {
					if got[i] != before[i%d] {
						t.Fatalf("size %d: Copy(%d, %d): the byte %d is %d, want %d", size, d, n, i, got[i], before[i%d])
					}
				}
				w.Put(chanceBytes(r, 40)...)
			}
		}
	}
}

// P10.7: two copies behind one another are one, where that is at most 273 bytes; and beyond they go on all the same.
func TestCopiesBehindOneAnother(t *testing.T) {
	r := rand.New(rand.NewSource(1072))
	for _, size := range smallSizes {
		whole := newPair(t, size)
		whole.put(chanceBytes(r, size+r.Intn(2*size))...)
		for range 40 {
			d := 1 + r.Intn(whole.u.full())
			a := r.Intn(274)
			b := []int{0, 273 - a, r.Intn(274 - a)}[r.Intn(3)]
			parts := whole.fork(t)
			first, second := copied(t, parts.w, d, a), copied(t, parts.w, d, b)
			parts.u.copied(d, a+b)
			want := copied(t, whole.w, d, a+b)
			whole.u.copied(d, a+b)
			if got := append(first, second...); !bytes.Equal(got, want) {
				t.Fatalf("size %d: Copy(%d, %d) and Copy(%d, %d): % X, want % X", size, d, a, d, b, got, want)
			}
			parts.same(t)
			whole.same(t)
		}
	}
}

// P10.7: a Copy is a Put of what it answers.
func TestCopyIsAPutOfItsAnswer(t *testing.T) {
	r := rand.New(rand.NewSource(1073))
	for _, size := range smallSizes {
		p := newPair(t, size)
		p.put(chanceBytes(r, size)...)
		for range 50 {
			f := p.fork(t)
			d, n := 1+r.Intn(size), r.Intn(274)
			got := copied(t, p.w, d, n)
			p.u.copied(d, n)
			f.put(got...)
			f.same(t)
			p.same(t)
		}
	}
}
