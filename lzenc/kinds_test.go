package lzenc_test

import (
	"testing"

	"pith/api"
)

// P14.1 to P14.4: the chapter's examples.
func TestExamples(t *testing.T) {
	e := made(t, usual, 4096)
	if e.Size() != 5 {
		t.Errorf("the size is %d", e.Size())
	}
	wantCost(t, e, lit(0), 144)
	wantCost(t, e, lit(255), 152)
	wantRefused(t, e, match(2, 1), api.ErrRange)
	wantRefused(t, e, api.Symbol{}, api.ErrConfig)
	wantNoBits(t, e)
	wantPut(t, e, lit(0x61))
	wantCost(t, e, short(), 66)
	wantCost(t, e, rep(2, 0), 131)
	wantCost(t, e, match(2, 1), 193)
	wantRefused(t, e, match(2, 2), api.ErrRange)
	wantPut(t, e, match(19, 1))
	wantCost(t, e, lit(0x61), 147)
}

// P14.2, P14.3: each kind, all probabilities Half, counted by hand; at each place, and whatever the dictionary holds.
func TestEachKind(t *testing.T) {
	for _, p := range allProps() {
		for _, came := range []int{4, 5, 6, 7, 19, 500} {
			for _, c := range []struct {
				y    api.Symbol
				bits string
			}{
				{lit(0x61), "0 01100001"},
				{lit(0xFE), "0 11111110"},
				{match(2, 1), "1 0 0 000 000000"},
				{match(3, 4), "1 0 0 001 000011"},
				{short(), "1 1 0 0"},
				{rep(2, 0), "1 1 0 1 0 000"},
				{rep(2, 1), "1 1 1 0 0 000"},
				{rep(2, 2), "1 1 1 1 0 0 000"},
				{rep(2, 3), "1 1 1 1 1 0 000"},
			} {
				e := made(t, p, 100)
				e.Raw(count(came)...)
				wantSpelt(t, e, c.y, c.bits)
			}
		}
	}
}

// P14.2, P14.3: what a kind does not use is not looked at.
func TestWhatAKindDoesNotUse(t *testing.T) {
	for _, n := range []int{0, 1, -1, 2, 274, greatest, least} {
		for _, d := range []int{0, 1, -1, 4, 5000, api.MaxTold + 1, greatest, least} {
			e := made(t, usual, 100)
			e.Raw(count(9)...)
			wantSpelt(t, e, api.Symbol{Kind: api.SymLit, Byte: 0x21, Len: n, Dist: d}, "0 00100001")
			e = made(t, usual, 100)
			e.Raw(count(9)...)
			wantSpelt(t, e, api.Symbol{Kind: api.SymShort, Byte: byte(n), Len: n, Dist: d}, "1 1 0 0")
		}
		e := made(t, usual, 100)
		e.Raw(count(9)...)
		wantSpelt(t, e, api.Symbol{Kind: api.SymMatch, Byte: byte(n), Len: 2, Dist: 3}, "1 0 0 000 000010")
		e = made(t, usual, 100)
		e.Raw(count(9)...)
		wantSpelt(t, e, api.Symbol{Kind: api.SymRep, Byte: byte(n), Len: 2, Dist: 1}, "1 1 1 0 0 000")
	}
}

// P14.2, P14.3: each kind behind ones that moved its probabilities, counted by hand. The numbers of the state go 0, 7, 10, 10 (and likewise of the other kinds that copy): so the fourth one finds those of the state moved once, all others three times.
func TestEachKindMoved(t *testing.T) {
	for _, c := range []struct {
		y           api.Symbol
		once, often string
	}{
		{lit(0x61), "", "0 01100001"},
		{match(2, 1), "1 0", "0 000 000000"},
		{match(12, 6), "1 0", "1 0 010 000100 1"},
		{match(40, 140), "1 0", "1 1 00010110 001110 1101"},
		{short(), "1 1 0 0", ""},
		{rep(2, 0), "1 1 0 1", "0 000"},
		{rep(17, 1), "1 1 1 0", "1 0 111"},
		{rep(18, 2), "1 1 1 1 0", "1 1 00000000"},
		{rep(273, 3), "1 1 1 1 1", "1 1 11111111"},
	} {
		e := made(t, api.Props{}, 4096)
		e.Raw(make([]byte, 200)...)
		wantPut(t, e, c.y, c.y, c.y)
		want := again(1, c.once) + again(3, c.often)
		if c.y.Dist == 140 {
			want += 32 // two bits without a probability
		}
		wantCost(t, e, c.y, want)
	}
}

// P14.2, P14.3: the probabilities of the state's number, each number by itself: what moved one is not seen in another.
func TestEachNumber(t *testing.T) {
	// ways: symbols that lead from the beginning to the number.
	l, m, r, s := lit(0), match(2, 1), rep(2, 0), short()
	ways := [12][]api.Symbol{{}, {m, l, l}, {r, l, l}, {s, l, l}, {m, l}, {r, l}, {s, l}, {m}, {r}, {s}, {m, m}, {r, r}}
	for num, way := range ways {
		for other, second := range ways {
			for _, y := range []api.Symbol{lit(1), match(4, 3), rep(4, 0), rep(4, 1), rep(4, 2), rep(4, 3), short()} {
				a := newPair(t, usual, 4096)
				a.raw(make([]byte, 20)...)
				a.put(t, way...)
				if a.w.s.Num != num {
					t.Fatalf("the way to %d leads to %d", num, a.w.s.Num)
				}
				for range 3 {
					a.put(t, y, lit(0), lit(0), lit(0), lit(0))
					a.put(t, way...)
				}
				a.put(t, lit(0), lit(0), lit(0), lit(0))
				a.put(t, second...)
				if a.w.s.Num != other {
					t.Fatalf("the way to %d leads to %d", other, a.w.s.Num)
				}
				a.put(t, y, match(2, 2), short(), rep(3, 2))
				a.cut(t)
			}
		}
	}
}

// P14.2: the example of the whole document, "a" and nineteen more of it, bit by bit.
func TestTwentyTimesTheSame(t *testing.T) {
	e := made(t, usual, 4096)
	wantSpelt(t, e, lit('a'), "0 01100001")
	wantSpelt(t, e, rep(19, 0), "1 1 0 1 1 1 00000001")
	wantRefused(t, e, match(2, 21), api.ErrRange)
	wantPut(t, e, match(2, 20))
}
