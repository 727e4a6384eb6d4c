package lzdec_test

import (
	"testing"

	"pith/api"
)

// wantSpent: nothing is taken any more, through Raw and Reset, till Clear; then the decoder answers as a new one with the properties of the last Reset.
func wantSpent(t *testing.T, a *pair) {
	t.Helper()
	wantNothing := func() {
		t.Helper()
		right := newScribe(a.w.p, a.w.dict)
		right.put(t, lit(1))
		for _, b := range [][]byte{right.cut(), make([]byte, 6), make([]byte, 5), nil, {1}} {
			wantRefused(t, a.d, b, 1, api.ErrFormat)
			wantRefused(t, a.d, b, api.MaxChunk, api.ErrFormat)
			wantRefused(t, a.d, b, 0, api.ErrRange)
			wantRefused(t, a.d, b, -1, api.ErrRange)
			wantRefused(t, a.d, b, api.MaxChunk+1, api.ErrRange)
		}
	}
	wantNothing()
	a.raw(1, 2, 3)
	wantNothing()
	if errno := a.d.Reset(api.Props{LC: 4, LP: 4}); errno != api.ErrConfig {
		t.Fatalf("Reset with wrong properties: error %d", errno)
	}
	wantNothing()
	a.reset(t, a.w.p)
	wantNothing()
	a.reset(t, api.Props{LC: 1, LP: 2, PB: 1})
	a.raw()
	wantNothing()
	a.clear()
	a.same(t)
}

// P15.4: a spent decoder that is cleared at once has the properties that it had, whatever was read ahead of the fault.
func TestClearedBehindAFault(t *testing.T) {
	for name, begin := range situations {
		t.Run(name, func(t *testing.T) {
			a := begin(t)
			a.w.put(t, lit(7), lit(8), match(20, 1), lit(9), short(), rep(7, 1))
			wantRefused(t, a.d, append(a.w.cut(), 0), 31, api.ErrFormat)
			a.clear()
			for _, y := range []api.Symbol{short(), rep(2, 0), match(2, 1)} {
				a.w.write(y)
				wantRefused(t, a.d, a.w.cut(), size([]api.Symbol{y}), api.ErrFormat)
				a.clear()
			}
			a.same(t)
		})
	}
}

// P15.2, P15.4: which error comes where n is wrong and the decoder is spent: ErrRange; and that changes nothing.
func TestWrongNumbersOfASpentOne(t *testing.T) {
	d := made(t, usual, 4096)
	wantRefused(t, d, nil, 1, api.ErrFormat)
	for _, n := range wrongSizes {
		wantRefused(t, d, nil, n, api.ErrRange)
		wantRefused(t, d, make([]byte, 6), n, api.ErrRange)
		wantRefused(t, d, make([]byte, 6), 1, api.ErrFormat)
	}
	d.Clear()
	wantTaken(t, d, make([]byte, 6), []api.Symbol{lit(0)}, []byte{0})
}

// P15.4: spent and cleared, over and over.
func TestSpentOften(t *testing.T) {
	a := newPair(t, usual, 50)
	for k := range 30 {
		a.take(t, lit(byte(k)), rep(30, 0), lit(3), match(9, 5))
		a.raw(1, 2, 3)
		a.w.put(t, lit(5), short())
		b := a.w.cut()
		wantRefused(t, a.d, b[:len(b)-1], 2, api.ErrFormat)
		wantRefused(t, a.d, b, 2, api.ErrFormat)
		a.clear()
		if k%3 == 0 {
			a.clear()
		}
	}
	a.same(t)
}
