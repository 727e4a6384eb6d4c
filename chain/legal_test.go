package chain_test

import (
	"math"
	"testing"

	"pith/api"
	"pith/chain"
)

// wantLegal: what Legal answers.
func wantLegal(t *testing.T, c api.Config, want api.Errno) {
	t.Helper()
	if errno := chain.Legal(c); errno != want {
		t.Errorf("Legal(%+v): error %d, want %d", c, errno, want)
	}
}

// wantIllegal: by Legal, and by all that ask it first: no filters, no bytes.
func wantIllegal(t *testing.T, c api.Config) {
	t.Helper()
	wantLegal(t, c, api.ErrConfig)
	if l, errno := chain.Of(c); len(l) != 0 || errno != api.ErrConfig {
		t.Errorf("Of(%+v): %s, error %d, want %d", c, told(l...), errno, api.ErrConfig)
	}
	for _, data := range []string{"", "abc"} {
		if b, errno := chain.Encode([]byte(data), c); len(b) != 0 || errno != api.ErrConfig {
			t.Errorf("Encode(%q, %+v): % X, error %d, want %d", data, c, b, errno, api.ErrConfig)
		}
	}
}

// P20.3: the chapter's example, and the edges of all fields together.
func TestLegalOfExamples(t *testing.T) {
	wantIllegal(t, api.Config{})
	wantLegal(t, usual, api.OK)
	wantLegal(t, api.Config{Dict: 4096, Block: 1}, api.OK)
	wantLegal(t, api.Config{Check: 10, Delta: 256, Props: api.Props{LC: 4, PB: 4}, Dict: 67108864, Block: 2147483648, Mode: 2}, api.OK)
	wantLegal(t, api.Config{Check: 4, Delta: 256, Props: api.Props{LP: 4, PB: 4}, Dict: 67108864, Block: 2147483648, Mode: 2}, api.OK)
}

// P20.3, P20.4, P20.6: each field by itself, at all edges.
func TestLegalOfEachField(t *testing.T) {
	for _, f := range fields() {
		for _, v := range f.right {
			c := usual
			f.set(&c, v)
			wantLegal(t, c, api.OK)
			wantOf(t, c, ofByWords(c)...)
		}
		for _, v := range append(f.wrong, far...) {
			c := usual
			f.set(&c, v)
			wantIllegal(t, c)
		}
	}
}

// P20.3: LC and LP together.
func TestLegalOfLCAndLP(t *testing.T) {
	for lc := -1; lc <= 9; lc++ {
		for lp := -1; lp <= 9; lp++ {
			c := usual
			c.Props = api.Props{LC: lc, LP: lp, PB: 4}
			if lc >= 0 && lp >= 0 && lc+lp <= 4 {
				wantLegal(t, c, api.OK)
			} else {
				wantIllegal(t, c)
			}
		}
	}
	// Sums that would wrap, or come to 4 at most by something below 0.
	for _, p := range []api.Props{{LC: math.MaxInt, LP: 1}, {LC: math.MaxInt, LP: math.MaxInt}, {LC: math.MinInt, LP: math.MinInt}, {LC: 5, LP: -1}, {LC: -1, LP: 5}, {LC: math.MaxInt, LP: math.MinInt}} {
		c := usual
		c.Props = p
		wantIllegal(t, c)
	}
}

// P20.3: any two fields at once: one that is wrong makes all illegal, whatever the other one is.
func TestLegalOfTwoFields(t *testing.T) {
	for i, f := range fields() {
		for _, g := range fields()[i+1:] {
			for _, v := range append(f.right, f.wrong...) {
				for _, w := range append(g.right, g.wrong...) {
					c := usual
					f.set(&c, v)
					g.set(&c, w)
					want := api.ErrConfig
					if legalByWords(c) {
						want = api.OK
					}
					wantLegal(t, c, want)
				}
			}
		}
	}
}
