package wire_test

import (
	"math"
	"testing"

	"pith/api"
	"pith/wire"
)

// wantNothingLeft: each call past the end is told, with no other result, and the place stays.
func wantNothingLeft(t *testing.T, r *wire.Reader) {
	t.Helper()
	off := r.Off()
	b, e := r.U8()
	wantNumber(t, "U8 at the end", uint64(b), e, 0, api.ErrTruncated)
	for n := 1; n <= 8; n++ {
		v, e := r.Low(n)
		wantNumber(t, "Low at the end", v, e, 0, api.ErrTruncated)
		v, e = r.High(n)
		wantNumber(t, "High at the end", v, e, 0, api.ErrTruncated)
		p, e := r.Take(n)
		wantCode(t, "Take at the end", e, api.ErrTruncated)
		wantBytes(t, "Take at the end", p)
		wantCode(t, "Zeros at the end", r.Zeros(n), api.ErrTruncated)
	}
	p, e := r.Take(0)
	wantCode(t, "Take(0) at the end", e, api.OK)
	wantBytes(t, "Take(0) at the end", p)
	wantCode(t, "Zeros(0) at the end", r.Zeros(0), api.OK)
	wantPlace(t, "at the end", r, off, 0)
}

// P1.3 to P1.5: the chapter's table.
func TestReaderExamples(t *testing.T) {
	r := wire.NewReader([]byte{1, 2, 3, 4, 0, 0, 7})
	v, e := r.Low(2)
	wantNumber(t, "Low(2)", v, e, 513, api.OK)
	v, e = r.High(2)
	wantNumber(t, "High(2)", v, e, 772, api.OK)
	wantCode(t, "Zeros(3)", r.Zeros(3), api.ErrFormat)
	wantPlace(t, "behind ErrFormat", r, 4, 3)
	wantCode(t, "Zeros(2)", r.Zeros(2), api.OK)
	b, e := r.U8()
	wantNumber(t, "U8", uint64(b), e, 7, api.OK)
	b, e = r.U8()
	wantNumber(t, "U8 again", uint64(b), e, 0, api.ErrTruncated)
	p, e := r.Take(0)
	wantCode(t, "Take(0)", e, api.OK)
	wantBytes(t, "Take(0)", p)
	_, e = r.Take(1)
	wantCode(t, "Take(1)", e, api.ErrTruncated)
	_, e = r.Take(-1)
	wantCode(t, "Take(-1)", e, api.ErrRange)
	v, e = r.Low(0)
	wantNumber(t, "Low(0)", v, e, 0, api.ErrConfig)
	v, e = r.Low(1)
	wantNumber(t, "Low(1)", v, e, 0, api.ErrTruncated)
	wantCode(t, "Zeros(1)", r.Zeros(1), api.ErrTruncated)
	wantPlace(t, "at the end", r, 7, 0)
}

// P1.3: none is read yet; nil and no bytes are the same.
func TestNewReader(t *testing.T) {
	wantPlace(t, "seven bytes", wire.NewReader(make([]byte, 7)), 0, 7)
	wantPlace(t, "nil", wire.NewReader(nil), 0, 0)
	wantPlace(t, "none", wire.NewReader([]byte{}), 0, 0)
	wantNothingLeft(t, wire.NewReader(nil))
	wantNothingLeft(t, wire.NewReader([]byte{}))
}

// P1.3: the room behind the bytes is none of theirs.
func TestReaderStopsAtTheLength(t *testing.T) {
	all := count(20)
	r := wire.NewReader(all[2:5])
	p, e := r.Take(3)
	wantCode(t, "Take(3)", e, api.OK)
	wantBytes(t, "Take(3)", p, 3, 4, 5)
	wantNothingLeft(t, r)
}

// P1.3: what the caller does later is not seen, ahead of the first read and between reads.
func TestReaderHasItsOwnBytes(t *testing.T) {
	b := []byte{1, 2, 3, 0}
	r := wire.NewReader(b)
	b[0] = 99
	v, e := r.U8()
	wantNumber(t, "U8", uint64(v), e, 1, api.OK)
	spoil(b)
	p, e := r.Take(2)
	wantCode(t, "Take(2)", e, api.OK)
	wantBytes(t, "Take(2)", p, 2, 3)
	wantCode(t, "Zeros(1)", r.Zeros(1), api.OK)
}

// P1.4
func TestReaderU8(t *testing.T) {
	b := make([]byte, 256)
	for i := range b {
		b[i] = byte(i)
	}
	r := wire.NewReader(b)
	for i := range 256 {
		wantPlace(t, "ahead of U8", r, i, 256-i)
		v, e := r.U8()
		if v != i || e != api.OK {
			t.Errorf("U8: %d, error %d, want %d", v, e, i)
		}
	}
	wantNothingLeft(t, r)
}

// P1.4: every width, with bytes behind the number and with none.
func TestReaderNumbers(t *testing.T) {
	for _, v := range someNumbers {
		for n := 1; n <= 8; n++ {
			for more := range 2 {
				low := append(lowBytes(v, n), make([]byte, more)...)
				r := wire.NewReader(low)
				got, e := r.Low(n)
				wantNumber(t, "Low", got, e, modulo(v, n), api.OK)
				wantPlace(t, "behind Low", r, n, more)

				high := append(turned(lowBytes(v, n)), make([]byte, more)...)
				r = wire.NewReader(high)
				got, e = r.High(n)
				wantNumber(t, "High", got, e, modulo(v, n), api.OK)
				wantPlace(t, "behind High", r, n, more)
			}
		}
	}
}

// P1.4: a number of which one byte is missing.
func TestReaderNumbersTooShort(t *testing.T) {
	for n := 1; n <= 8; n++ {
		r := wire.NewReader(count(n + 1))
		r.Take(2)
		v, e := r.Low(n)
		wantNumber(t, "Low", v, e, 0, api.ErrTruncated)
		v, e = r.High(n)
		wantNumber(t, "High", v, e, 0, api.ErrTruncated)
		wantPlace(t, "behind ErrTruncated", r, 2, n-1)
		p, e := r.Take(n - 1)
		wantCode(t, "what is left", e, api.OK)
		wantBytes(t, "what is left", p, count(n + 1)[2:]...)
	}
}

// P1.4: what is no width is told, ahead of missing bytes, reads nothing, and does not stay.
func TestReaderNoWidths(t *testing.T) {
	for _, b := range [][]byte{nil, {1}, count(12)} {
		r := wire.NewReader(b)
		for _, n := range noWidths {
			v, e := r.Low(n)
			wantNumber(t, "Low", v, e, 0, api.ErrConfig)
			v, e = r.High(n)
			wantNumber(t, "High", v, e, 0, api.ErrConfig)
			wantPlace(t, "behind ErrConfig", r, 0, len(b))
		}
	}
	r := wire.NewReader(count(2))
	r.Low(9)
	v, e := r.Low(1)
	wantNumber(t, "asked anew", v, e, 1, api.OK)
	r.High(0)
	v, e = r.High(1)
	wantNumber(t, "asked anew", v, e, 2, api.OK)
}

// P1.4: at every place, as many as there are, and more.
func TestReaderTake(t *testing.T) {
	b := count(9)
	for off := range 10 {
		for n := range 10 - off {
			r := wire.NewReader(b)
			r.Take(off)
			p, e := r.Take(n)
			wantCode(t, "Take", e, api.OK)
			wantBytes(t, "Take", p, b[off:off+n]...)
			wantPlace(t, "behind Take", r, off+n, 9-off-n)
		}
		r := wire.NewReader(b)
		r.Take(off)
		for _, n := range []int{10 - off, 11 - off, 1 << 31, 1 << 32, math.MaxInt - off, math.MaxInt - max(off-1, 0), math.MaxInt} {
			p, e := r.Take(n)
			wantCode(t, "Take of too many", e, api.ErrTruncated)
			wantBytes(t, "Take of too many", p)
			wantPlace(t, "behind Take of too many", r, off, 9-off)
		}
	}
}

// P1.4: what is below 0 is ErrRange, wherever the reader stands.
func TestReaderCountsBelowZero(t *testing.T) {
	for off := range 4 {
		r := wire.NewReader(make([]byte, 3))
		r.Take(off)
		for _, n := range belowZero {
			p, e := r.Take(n)
			wantCode(t, "Take", e, api.ErrRange)
			wantBytes(t, "Take", p)
			wantCode(t, "Zeros", r.Zeros(n), api.ErrRange)
			wantPlace(t, "behind ErrRange", r, off, 3-off)
		}
		p, e := r.Take(3 - off)
		wantCode(t, "asked anew", e, api.OK)
		wantBytes(t, "asked anew", p, make([]byte, 3-off)...)
	}
}

// P1.4: what is taken is new memory, spare room too.
func TestReaderTakesNewMemory(t *testing.T) {
	r := wire.NewReader(count(6))
	a, _ := r.Take(2)
	_ = append(a, 99, 99)
	spoil(a)
	b, e := r.Take(2)
	wantCode(t, "Take(2)", e, api.OK)
	wantBytes(t, "Take(2)", b, 3, 4)
	none, _ := r.Take(0)
	_ = append(none, 99)
	spoil(none)
	v, e := r.High(2)
	wantNumber(t, "High(2)", v, e, 0x0506, api.OK)
	wantBytes(t, "an earlier answer", b, 3, 4)
}

// P1.4: a byte that is not 0, at each place among the zeros, and behind them.
func TestReaderZeros(t *testing.T) {
	for n := range 9 {
		for bad := range n {
			for _, x := range []byte{1, 128, 255} {
				b := make([]byte, n+1)
				b[bad] = x
				r := wire.NewReader(b)
				wantCode(t, "Zeros", r.Zeros(n), api.ErrFormat)
				wantPlace(t, "behind ErrFormat", r, 0, n+1)
				wantCode(t, "Zeros of those ahead", r.Zeros(bad), api.OK)
				wantPlace(t, "behind those ahead", r, bad, n+1-bad)
			}
		}
		b := append(make([]byte, n), 1)
		r := wire.NewReader(b)
		wantCode(t, "Zeros", r.Zeros(n), api.OK)
		wantPlace(t, "behind zeros", r, n, 1)
		wantCode(t, "Zeros past the end", r.Zeros(2), api.ErrTruncated)
		wantCode(t, "Zeros far past the end", r.Zeros(math.MaxInt), api.ErrTruncated)
		wantPlace(t, "behind ErrTruncated", r, n, 1)
	}
}

// P1.4: a reader has no bound but its end, as the writer has.
func TestReaderManyZeros(t *testing.T) {
	b := append([]byte{1}, make([]byte, 65537)...)
	r := wire.NewReader(b)
	r.U8()
	wantCode(t, "Zeros(65538)", r.Zeros(65538), api.ErrTruncated)
	wantCode(t, "Zeros(65537)", r.Zeros(65537), api.OK)
	wantNothingLeft(t, r)
}

// P1.5: asking changes nothing.
func TestReaderAskedOften(t *testing.T) {
	r := wire.NewReader(count(3))
	r.U8()
	for range 5 {
		wantPlace(t, "asked again", r, 1, 2)
	}
	v, e := r.High(2)
	wantNumber(t, "and read on", v, e, 0x0203, api.OK)
	wantNothingLeft(t, r)
}
