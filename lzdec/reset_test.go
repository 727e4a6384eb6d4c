package lzdec_test

import (
	"math/rand"
	"testing"

	"pith/api"
)

// P15.4: what was learnt is forgotten, with the same properties and with others; the dictionary stays.
func TestReset(t *testing.T) {
	for _, p := range allProps() {
		for _, begin := range situations {
			a := begin(t)
			a.reset(t, p)
			if a.w.held() > 0 {
				a.take(t, match(9, a.w.held()), lit(2))
			}
			a.same(t)
		}
	}
}

// P15.4: wrong properties are ErrConfig, and change nothing: neither what was learnt, nor the dictionary, nor the properties; and the decoder is not spent.
func TestResetWithWrongProps(t *testing.T) {
	for _, begin := range situations {
		a := begin(t)
		for _, p := range wrongProps {
			if errno := a.d.Reset(p); errno != api.ErrConfig {
				t.Errorf("Reset(%+v): error %d", p, errno)
			}
		}
		a.same(t)
	}
}

// P15.4: all probabilities are Half behind Reset, whatever was learnt: spelt by hand. The place and the dictionary stay.
func TestResetForgets(t *testing.T) {
	for _, c := range []struct {
		bits string
		y    api.Symbol
	}{{"0 01100001", lit('a')}, {"1 0 0 000 000000", match(2, 1)}, {"1 1 1 0 1 0 010", rep(12, 1)}, {"1 1 0 0", short()}, {"1 0 0 000 001111 oo 0000", match(2, 193)}} {
		a := newPair(t, usual, 4096)
		for range 20 {
			a.take(t, lit('a'), match(2, 1), rep(12, 1), short())
		}
		a.reset(t, api.Props{LC: 1, PB: 1})
		came := len(a.w.came)
		a.w.apply(c.y)
		wantTaken(t, a.d, coded(c.bits), []api.Symbol{c.y}, a.w.came[came:])
	}
}

// P15.4: the last distances are 1 again.
func TestResetOfDistances(t *testing.T) {
	for i := range 4 {
		a := newPair(t, usual, 4096)
		a.raw(count(60)...)
		a.take(t, match(2, 11), match(2, 22), match(2, 33), match(2, 44))
		a.reset(t, usual)
		a.take(t, rep(3, i), lit(5), short(), lit(6))
		a.same(t)
	}
}

// P15.4: Clear: the dictionary is begun anew, the place is 0, what was learnt is forgotten; the properties stay, those of New and those of the last Reset.
func TestClear(t *testing.T) {
	for _, p := range allProps() {
		a := newPair(t, p, 300)
		r := rand.New(rand.NewSource(1561))
		for range 3 {
			a.take(t, a.w.chance(r, 60)...)
			a.raw(1, 2, 3)
			a.clear()
			a.same(t)
			a.reset(t, p)
			a.clear()
		}
		for _, y := range []api.Symbol{match(2, 1), rep(2, 0), rep(2, 3), short()} {
			a.w.write(y)
			wantRefused(t, a.d, a.w.cut(), size([]api.Symbol{y}), api.ErrFormat)
			a.clear()
		}
		wantTaken(t, a.d, coded("0 11000011"), []api.Symbol{lit(0xC3)}, []byte{0xC3})
	}
}

// P15.4: the properties of a Reset stay behind Clear, also of one that has other properties than New.
func TestClearKeepsProps(t *testing.T) {
	for _, first := range boundProps {
		for _, second := range boundProps {
			a := newPair(t, first, 300)
			a.take(t, lit(1), lit(2), match(5, 2))
			a.reset(t, second)
			a.clear()
			a.same(t)
		}
	}
}

// P15.4: the place is 0 behind Clear: place states and rows are those of the beginning, whatever came before.
func TestClearedPlace(t *testing.T) {
	for came := range 35 {
		a := newPair(t, api.Props{LP: 4, PB: 4}, 20)
		a.raw(count(came)...)
		a.clear()
		a.take(t, lit(0))
		a.raw(make([]byte, 15)...)
		a.take(t, lit(0), lit(0), rep(3, 0))
		a.same(t)
	}
}

// P15.4: often, and mixed.
func TestBegunAnewOften(t *testing.T) {
	a := newPair(t, usual, 4096)
	r := rand.New(rand.NewSource(1562))
	all := allProps()
	for range 300 {
		switch r.Intn(4) {
		case 0:
			a.reset(t, all[r.Intn(len(all))])
		case 1:
			a.clear()
		case 2:
			a.raw(count(r.Intn(40))...)
		}
		a.take(t, a.w.chance(r, 10)...)
	}
	a.same(t)
}
