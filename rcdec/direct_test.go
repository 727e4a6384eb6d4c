package rcdec_test

import (
	"math/rand"
	"testing"

	"pith/api"
)

// P8.3: the chapter's examples.
func TestDirectOfTheExamples(t *testing.T) {
	d := begun(t, 0, 0x9F, 0xFF, 0xFF, 0xFE)
	wantDirect(t, d, 3, 5)
	wantEnd(t, d, 5, true)

	d = begun(t, 0, 0, 0, 0, 0)
	noDirect(t, d, 8, api.ErrTruncated)
	wantEnd(t, d, 5, true)
	wantDirect(t, d, 7, 0)
	wantEnd(t, d, 5, true)

	d = begun(t, 0, 0, 0, 0, 0, 0)
	wantEnd(t, d, 5, false)
	wantDirect(t, d, 8, 0)
	wantEnd(t, d, 6, true)

	d = begun(t, 0, 0xFF, 0xFF, 0xFF, 0xFE)
	noDirect(t, d, 1, api.ErrFormat)
	wantEnd(t, d, 5, false)

	d = begun(t, 0, 0x0F, 0xFF, 0xFF, 0xFC, 0)
	noDirect(t, d, 7, api.ErrFormat)
	noDirect(t, d, 8, api.ErrFormat)
	wantEnd(t, d, 5, false)
	wantDirect(t, d, 6, 3)
	noDirect(t, d, 1, api.ErrFormat)

	d = begun(t, 0, 0, 0, 0, 0)
	noDirect(t, d, 33, api.ErrRange)
	noDirect(t, d, -1, api.ErrRange)
	wantDirect(t, d, 0, 0)
}

// P8.3: what the encoder's chapter codes in its examples.
func TestDirectOfTheEncodersExamples(t *testing.T) {
	d := begun(t, 0, 0xFF, 0xFF, 0xFF, 0xF6, 0, 0, 1, 0)
	wantDirect(t, d, 32, 1<<32-1)
	wantEnd(t, d, 9, true)
	d = begun(t, 0, 0xFF, 0xFF, 0xFF, 0xF6, 0xFF, 0xFF, 0xFF, 0xFF, 0, 0, 1, 0)
	wantDirect(t, d, 32, 1<<32-1)
	wantEnd(t, d, 9, false)
	wantDirect(t, d, 32, 1<<32-1)
	wantEnd(t, d, 13, true)
}

// P8.3: every number of bits, of numbers with the first, the last, all and no bits: the first bit is the highest.
func TestDirectOfEveryCount(t *testing.T) {
	r := rand.New(rand.NewSource(831))
	for n := range 33 {
		mask := uint32(1<<n - 1)
		for _, v := range []uint32{0, 1, 1 << 31, 1<<32 - 1, 0xAAAAAAAA, 0x55555555, 1 << max(n-1, 0), r.Uint32(), r.Uint32()} {
			a := newPath()
			a.direct(v, n)
			d := begun(t, a.bytes(0)...)
			wantDirect(t, d, n, v&mask)
			wantEnd(t, d, n/8+5, true)
		}
	}
}

// P8.3: bit by bit it is the same number.
func TestDirectBitByBit(t *testing.T) {
	r := rand.New(rand.NewSource(832))
	for range 200 {
		v := r.Uint32()
		a := newPath()
		a.direct(v, 32)
		d := begun(t, a.bytes(0)...)
		for i := 31; i >= 0; i-- {
			wantDirect(t, d, 1, v>>i&1)
		}
		wantEnd(t, d, 9, true)
	}
}

// P8.3: rows of numbers, from any bytes.
func TestRowsOfDirect(t *testing.T) {
	r := rand.New(rand.NewSource(833))
	for range 400 {
		newPair(t, 0, chanceBytes(r, 5+r.Intn(60))...).drain(t, r)
	}
}

// P8.3, P8.4, W5: a number of bits below 0 or above 32 is ErrRange; nothing has changed.
func TestDirectOfNoCount(t *testing.T) {
	r := rand.New(rand.NewSource(834))
	for range 20 {
		p := newPair(t, 2, chanceBytes(r, 30)...)
		p.bit(t, 1)
		p.direct(t, 5)
		for _, n := range noCounts {
			noDirect(t, p.d, n, api.ErrRange)
			p.same(t)
		}
		p.drain(t, r)
	}
}

// P8.3: ErrRange comes ahead of ErrTruncated and of ErrFormat; no bits are there at any end.
func TestDirectOfNoCountAtTheEnd(t *testing.T) {
	for _, c := range []struct {
		b    []byte
		want api.Errno
	}{{[]byte{0, 0, 0, 0, 0}, api.ErrTruncated}, {[]byte{0, 0xFF, 0xFF, 0xFF, 0xFE}, api.ErrFormat}} {
		d := begun(t, c.b...)
		noDirect(t, d, 32, c.want)
		for _, n := range noCounts {
			noDirect(t, d, n, api.ErrRange)
		}
		wantDirect(t, d, 0, 0)
		noDirect(t, d, 32, c.want)
	}
	d := begun(t, 0, 0, 0, 0, 0)
	wantDirect(t, d, 7, 0)
	noDirect(t, d, 1, api.ErrTruncated)
	wantDirect(t, d, 0, 0)
}

// P8.3: at a code of half the range, less one, a 0; at half of it a 1; at the last number but one of an odd range still a 1, at the last one ErrFormat; an even range has no such number.
func TestDirectAtTheHalf(t *testing.T) {
	odd, even := 0, 0
	r := rand.New(rand.NewSource(835))
	for range 600 {
		a, row := newPath(), []int{1024}
		var steps []int
		for range r.Intn(40) {
			bit := r.Intn(2)
			steps = append(steps, bit)
			a.bit(row[0], bit)
			row[0] = moved(row[0], bit)
		}
		half := a.span / 2
		for _, code := range []uint64{0, 1, half - 1, half, half + 1, 2*half - 1, a.span - 2, a.span - 1} {
			b := append(a.bytes(code), byte(r.Intn(256)))
			p := newPair(t, 1, b...)
			for _, bit := range steps {
				wantBit(t, p.d, p.s, 0, bit)
				p.u, _, _ = p.u.bit(p.row[0])
				p.row[0] = moved(p.row[0], bit)
			}
			if p.u.code != code || p.u.span != a.span {
				t.Fatalf("the way led to another place: %X of %X", p.u.code, p.u.span)
			}
			want := api.OK
			if code == 2*half {
				want = api.ErrFormat
			}
			if e := p.direct(t, 1); e != want {
				t.Fatalf("code %X of %X: error %d, want %d", code, a.span, e, want)
			}
			p.drain(t, r)
		}
		odd += int(a.span % 2)
		even += int(1 - a.span%2)
	}
	if odd < 30 || even < 30 {
		t.Errorf("%d odd ranges, %d even ones", odd, even)
	}
}

// P8.3: the last byte is read by a Direct, and one bit more is ErrTruncated.
func TestDirectReadsTheLastByte(t *testing.T) {
	for extra := range 5 {
		for _, c := range []byte{0, 0x55} {
			b := make([]byte, 5+extra)
			b[1] = c
			p := newPair(t, 1, b...)
			for k := range 8*extra + 7 {
				if e := p.direct(t, 1); e != api.OK {
					t.Fatalf("bit %d: error %d", k, e)
				}
			}
			wantEnd(t, p.d, len(b), p.u.code == 0)
			for n := 1; n <= 32; n++ {
				noDirect(t, p.d, n, api.ErrTruncated)
				wantEnd(t, p.d, len(b), p.u.code == 0)
			}
			wantDirect(t, p.d, 0, 0)
		}
	}
	d := begun(t, 0, 0, 0, 0, 0, 0, 0, 0, 0)
	wantDirect(t, d, 32, 0)
	wantEnd(t, d, 9, true)
	d = begun(t, 0, 0, 0, 0, 0, 0, 0, 0)
	noDirect(t, d, 32, api.ErrTruncated)
	wantEnd(t, d, 5, false)
	wantDirect(t, d, 31, 0)
	wantEnd(t, d, 8, true)
}
