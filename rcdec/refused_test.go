package rcdec_test

import (
	"math/rand"
	"testing"

	"pith/api"
	"pith/rcdec"
)

// oddEnd: some bits by a probability, and bytes of which a Direct behind them is refused by ErrFormat, at its bit number k.
func oddEnd(r *rand.Rand, k int) (steps []int, b []byte) {
	for {
		a, p := newPath(), 1024
		steps = nil
		for range r.Intn(30) {
			bit := r.Intn(2)
			steps = append(steps, bit)
			a.bit(p, bit)
			p = moved(p, bit)
		}
		for range k - 1 {
			a.plain(r.Intn(2))
		}
		if a.span%2 == 1 {
			return steps, a.bytes(a.span - 1)
		}
	}
}

// P8.3, P8.4: Direct is refused by ErrFormat behind none, some and seven of its bits: it is as if it had not been asked, and fewer bits are there.
func TestDirectRefusedByFormat(t *testing.T) {
	r := rand.New(rand.NewSource(841))
	for k := 1; k <= 8; k++ {
		for range 60 {
			steps, b := oddEnd(r, k)
			for _, tail := range [][]byte{nil, {0}, {0xFF, 0xFF, 0xFF, 0xFF, 0xFF}} {
				p := newPair(t, 1, append(append([]byte{}, b...), tail...)...)
				for range steps {
					p.bit(t, 0)
				}
				for n := 32; n >= k; n-- {
					if e := p.direct(t, n); e != api.ErrFormat {
						t.Fatalf("Direct(%d): error %d", n, e)
					}
				}
				if e := p.direct(t, k-1); e != api.OK {
					t.Fatalf("Direct(%d): error %d", k-1, e)
				}
				if e := p.direct(t, 1); e != api.ErrFormat {
					t.Fatalf("bit number %d: error %d", k, e)
				}
				p.drain(t, r)
			}
		}
	}
}

// P8.3: at one bit ErrFormat comes ahead of ErrTruncated, which its widening would meet; at two bits the first one's error is the answer.
func TestFormatAheadOfTruncated(t *testing.T) {
	d := begun(t, 0, 0x01, 0xFF, 0xFF, 0xFE)
	noDirect(t, d, 8, api.ErrFormat)
	wantDirect(t, d, 7, 0)
	noDirect(t, d, 1, api.ErrFormat)
	wantEnd(t, d, 5, false)
	d = begun(t, 0, 0x01, 0xFF, 0xFF, 0xFD)
	noDirect(t, d, 8, api.ErrTruncated)
	wantDirect(t, d, 7, 0)
	noDirect(t, d, 1, api.ErrTruncated)
	d = begun(t, 0, 0x0F, 0xFF, 0xFF, 0xFC)
	noDirect(t, d, 8, api.ErrFormat)
	noDirect(t, d, 32, api.ErrFormat)
	wantDirect(t, d, 6, 3)
}

// P8.3, P8.4: Direct is refused by ErrTruncated behind none, some and 31 of its bits, with none to three bytes read meanwhile: these are not read then.
func TestDirectRefusedByTruncated(t *testing.T) {
	r := rand.New(rand.NewSource(842))
	met := map[int]int{}
	for range 300 {
		b := chanceBytes(r, 5+r.Intn(8))
		p := newPair(t, 1, b...)
		for range r.Intn(60) {
			if !p.bit(t, 0) {
				break
			}
		}
		for n := 32; n >= 0; n-- {
			used := p.u.used
			if p.direct(t, n) == api.ErrTruncated {
				met[len(b)-used]++
			} else if p.u.used != used {
				break
			}
		}
		p.drain(t, r)
	}
	for left := range 4 {
		if met[left] == 0 {
			t.Errorf("none was refused with %d bytes left: %v", left, met)
		}
	}
}

// P8.4: one that is refused at many places reads what one reads that is never refused anything.
func TestRefusedAndSilent(t *testing.T) {
	r := rand.New(rand.NewSource(843))
	for range 100 {
		b := chanceBytes(r, 5+r.Intn(40))
		asked, silent := begun(t, b...), begun(t, b...)
		s, q := made(t, 2), made(t, 2)
		for range 400 {
			refuse(t, r, asked, 2)
			if asked.Used() != silent.Used() || asked.Done() != silent.Done() {
				t.Fatalf("Used is %d, Done %v; want %d, %v", asked.Used(), asked.Done(), silent.Used(), silent.Done())
			}
			n := r.Intn(10)
			if v, e := silent.Direct(n); e != api.OK {
				noDirect(t, asked, n, e)
			} else {
				wantDirect(t, asked, n, v)
			}
			i := r.Intn(2)
			if bit, e := silent.Bit(q, i); e != api.OK {
				noBit(t, asked, s, i, e)
			} else {
				wantBit(t, asked, s, i, bit)
			}
			for i := range 2 {
				want, _ := q.At(i)
				if p, _ := s.At(i); p != want {
					t.Fatalf("At(%d) is %d, want %d", i, p, want)
				}
			}
		}
	}
}

// refuse: what is refused at every place, by a set of n and by one of none.
func refuse(t *testing.T, r *rand.Rand, d *rcdec.Decoder, n int) {
	t.Helper()
	noBit(t, d, made(t, 0), 0, api.ErrRange)
	s := made(t, n)
	noBit(t, d, s, n, api.ErrRange)
	noBit(t, d, s, outside[r.Intn(len(outside))], api.ErrRange)
	wantRow(t, s, alike(n, 1024))
	noDirect(t, d, noCounts[r.Intn(len(noCounts))], api.ErrRange)
}

// P8.4: a refusal may be met over and over, a thousand times, and the last bits are still there.
func TestRefusedOverAndOver(t *testing.T) {
	d, s := begun(t, 0, 0, 0, 0, 0x42), made(t, 1)
	for range 1000 {
		noDirect(t, d, 8, api.ErrTruncated)
		noDirect(t, d, 32, api.ErrTruncated)
	}
	wantDirect(t, d, 7, 0)
	for range 1000 {
		noBit(t, d, s, 0, api.ErrTruncated)
		noDirect(t, d, 1, api.ErrTruncated)
	}
	wantRow(t, s, []int{1024})
	wantEnd(t, d, 5, false)
}

// P8.4: behind a Bit that is refused a likelier one may still be there, and reads just what it reads without the refusal.
func TestLikelyBitsBehindARefusal(t *testing.T) {
	r := rand.New(rand.NewSource(844))
	met := 0
	for range 300 {
		b := chanceBytes(r, 5+r.Intn(4))
		p := &pair{begun(t, b...), made(t, 3), newTeller(b), alike(3, 1024)}
		for range 400 {
			p.s.Turn(1, 0)
			p.s.Turn(2, 1)
		}
		p.row[1], p.row[2] = 2017, 31
		for p.bit(t, 0) {
		}
		for range 40 {
			if p.bit(t, 1) || p.bit(t, 2) {
				met++
			}
			p.bit(t, 0)
		}
	}
	if met == 0 {
		t.Error("no bit came behind a refusal")
	}
}
