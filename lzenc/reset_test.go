package lzenc_test

import (
	"bytes"
	"math/rand"
	"testing"

	"pith/api"
)

// P14.6: all is forgotten, with the same properties and with others; dictionary and range encoder stay.
func TestReset(t *testing.T) {
	for _, p := range allProps() {
		for _, a := range situations(t) {
			size := a.e.Size()
			a.reset(t, p)
			if a.e.Size() != size {
				t.Errorf("the size was %d and is %d", size, a.e.Size())
			}
			a.same(t)
		}
	}
}

// P14.6: wrong properties are ErrConfig, and change nothing.
func TestResetWithWrongProps(t *testing.T) {
	for _, a := range situations(t) {
		for _, p := range wrongProps {
			if errno := a.e.Reset(p); errno != api.ErrConfig {
				t.Errorf("Reset(%+v): error %d", p, errno)
			}
		}
		a.same(t)
		a.put(t, lit(1), lit(2), match(2, 2))
		a.cut(t)
	}
}

// P14.6: the costs behind Reset are those of the beginning, but that the dictionary is there.
func TestResetForgets(t *testing.T) {
	e := made(t, usual, 4096)
	for range 20 {
		wantPut(t, e, lit('a'), match(2, 1), rep(12, 1), short())
	}
	if errno := e.Reset(api.Props{LC: 1, PB: 1}); errno != api.OK {
		t.Fatalf("error %d", errno)
	}
	for _, c := range []struct {
		y    api.Symbol
		bits string
	}{{lit('a'), "0 01100001"}, {match(2, 1), "1 0 0 000 000000"}, {rep(12, 1), "1 1 1 0 1 0 010"}, {short(), "1 1 0 0"}} {
		wantCost(t, e, c.y, half(c.bits))
	}
	if _, errno := e.Cost(match(2, 16*20)); errno != api.OK {
		t.Errorf("the first byte is not in the dictionary: error %d", errno)
	}
	wantRefused(t, e, match(2, 16*20+1), api.ErrRange)
}

// P14.6: the last distances are 1 again.
func TestResetOfDistances(t *testing.T) {
	for i := range 4 {
		a := newPair(t, usual, 4096)
		a.raw(count(60)...)
		a.put(t, match(2, 11), match(2, 22), match(2, 33), match(2, 44))
		a.reset(t, usual)
		a.put(t, rep(3, i), lit(5), short(), lit(6))
		a.same(t)
	}
}

// P14.6, P14.4: bits ahead of a Reset are in the Cut behind it.
func TestResetKeepsTheBits(t *testing.T) {
	a := newPair(t, usual, 4096)
	a.put(t, lit(1), lit(2), match(20, 2))
	a.reset(t, api.Props{LC: 4, PB: 4})
	a.put(t, lit(1), short())
	a.clear()
	a.put(t, lit(1), lit(7))
	if b := a.cut(t); len(b) < 10 {
		t.Errorf("% X", b)
	}
}

// P14.7: all is forgotten, the dictionary is begun anew, and the place is 0; properties and range encoder stay.
func TestClear(t *testing.T) {
	for _, p := range allProps() {
		r := rand.New(rand.NewSource(1471))
		a := newPair(t, p, 300)
		chance(t, a, r, 60)
		a.raw(1, 2, 3)
		size := a.e.Size()
		a.clear()
		if a.e.Size() != size {
			t.Errorf("the size was %d and is %d", size, a.e.Size())
		}
		for _, y := range []api.Symbol{match(2, 1), rep(2, 0), rep(2, 3), short()} {
			wantRefused(t, a.e, y, api.ErrRange)
		}
		wantCost(t, a.e, lit(0xC3), half("0 11000011"))
		a.same(t)
		chance(t, a, r, 60)
		a.same(t)
		a.cut(t)
	}
}

// P14.7: behind Clear and Cut an encoder is like a new one of its properties, those of the last Reset.
func TestClearedIsLikeNew(t *testing.T) {
	r := rand.New(rand.NewSource(1472))
	for _, p := range boundProps {
		a, fresh := newPair(t, usual, 300), newPair(t, p, 300)
		chance(t, a, r, 50)
		a.reset(t, p)
		chance(t, a, r, 50)
		a.clear()
		a.clear()
		a.cut(t)
		for range 80 {
			y := fresh.w.chanceSymbol(r)
			if fresh.put(t, y) != a.put(t, y) {
				t.Fatalf("%+v is taken by one alone", y)
			}
		}
		if x, y := a.cut(t), fresh.cut(t); !bytes.Equal(x, y) {
			t.Errorf("% X and % X", x, y)
		}
	}
}

// P14.7: the place is 0 behind Clear: place states and rows are those of the beginning, whatever came before.
func TestClearedPlace(t *testing.T) {
	p := api.Props{LP: 4, PB: 4}
	for came := range 35 {
		e := made(t, p, 20)
		e.Raw(count(came)...)
		e.Clear()
		wantPut(t, e, lit(0))
		e.Raw(make([]byte, 15)...)
		wantCost(t, e, lit(0), again(1, "0 00000000"))
		e.Raw(0)
		wantCost(t, e, lit(0), half("0 00000000"))
	}
}

// P14.6, P14.7: often, and mixed.
func TestBegunAnewOften(t *testing.T) {
	a := newPair(t, usual, 4096)
	r := rand.New(rand.NewSource(1473))
	all := allProps()
	for range 200 {
		switch r.Intn(3) {
		case 0:
			a.reset(t, all[r.Intn(len(all))])
		case 1:
			a.clear()
		}
		chance(t, a, r, 10)
	}
	a.same(t)
	a.cut(t)
}
