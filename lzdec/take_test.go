package lzdec_test

import (
	"bytes"
	"math/rand"
	"testing"

	"pith/api"
	"pith/symbol"
)

// The chapter's examples.
func TestExamples(t *testing.T) {
	wantNone(t, api.Props{LC: 5}, 4096, api.ErrConfig)
	d := made(t, usual, 4096)
	wantRefused(t, d, make([]byte, 6), 0, api.ErrRange)
	wantRefused(t, d, make([]byte, 6), 2097153, api.ErrRange)
	wantTaken(t, d, make([]byte, 6), []api.Symbol{lit(0)}, []byte{0})

	d = made(t, usual, 4096)
	wantRefused(t, d, []byte{1, 0, 0, 0, 0, 0}, 1, api.ErrFormat)
	wantRefused(t, d, make([]byte, 6), 1, api.ErrFormat)
	d.Clear()
	wantTaken(t, d, make([]byte, 6), []api.Symbol{lit(0)}, []byte{0})

	for _, b := range [][]byte{make([]byte, 5), make([]byte, 7), {0, 0, 0, 0, 0, 1}, {0, 0x80, 0, 0, 0, 0}} {
		wantRefused(t, made(t, usual, 4096), b, 1, api.ErrFormat)
	}
}

// P15.2: n from 1 to MaxChunk is taken, and nothing else; a refused n changes nothing, and does not make the decoder spent.
func TestNumbersOfBytes(t *testing.T) {
	for name, begin := range situations {
		t.Run(name, func(t *testing.T) {
			a := begin(t)
			for _, n := range wrongSizes {
				for _, b := range [][]byte{nil, {1, 2, 3}, make([]byte, 6), make([]byte, 5), {0, 0x80, 0, 0, 0, 0}} {
					wantRefused(t, a.d, b, n, api.ErrRange)
				}
			}
			a.same(t)
		})
	}
}

// P15.2: the greatest n, and its neighbour; one more is too great, though the symbols are right.
func TestMaxChunk(t *testing.T) {
	for _, n := range []int{api.MaxChunk - 1, api.MaxChunk, api.MaxChunk + 1} {
		l := []api.Symbol{lit('a')}
		for left := n - 1; left > 0; left -= symbol.Size(l[len(l)-1]) {
			switch {
			case left == 1:
				l = append(l, short())
			case left == 274:
				l = append(l, rep(200, 0))
			default:
				l = append(l, rep(min(273, left), 0))
			}
		}
		a := newPair(t, usual, 4096)
		if n <= api.MaxChunk {
			a.take(t, l...)
			a.same(t)
			continue
		}
		a.w.put(t, l...)
		b := a.w.cut()
		wantRefused(t, a.d, b, n, api.ErrRange)
		wantRefused(t, a.d, b, n-1, api.ErrFormat)
	}
}

// P15.2: packed bytes are as many as they are: more than a chunk has room for are taken too.
func TestManyPackedBytes(t *testing.T) {
	r := rand.New(rand.NewSource(1521))
	data := make([]byte, 90000)
	r.Read(data)
	a := newPair(t, usual, 4096)
	a.w.put(t, symbol.Literals(data)...)
	b := a.w.cut()
	if len(b) <= api.MaxPacked {
		t.Fatalf("%d bytes", len(b))
	}
	wantTaken(t, a.d, b, symbol.Literals(data), data)
	a.same(t)
}

// P15.2: each kind, all probabilities Half, spelt by hand; with all properties, at each place, and whatever the dictionary holds.
func TestEachKind(t *testing.T) {
	for _, p := range allProps() {
		for _, came := range []int{4, 5, 6, 7, 19, 500} {
			for _, c := range []struct {
				bits string
				y    api.Symbol
			}{
				{"0 01100001", lit(0x61)},
				{"0 11111110", lit(0xFE)},
				{"1 0 0 000 000000", match(2, 1)},
				{"1 0 0 001 000011", match(3, 4)},
				{"1 1 0 0", short()},
				{"1 1 0 1 0 000", rep(2, 0)},
				{"1 1 1 0 0 000", rep(2, 1)},
				{"1 1 1 1 0 0 000", rep(2, 2)},
				{"1 1 1 1 1 0 000", rep(2, 3)},
			} {
				wantSpelt(t, p, count(came), c.y, c.bits)
			}
		}
	}
}

// wantSpelt: a decoder that has learnt nothing, behind these bytes, takes such bits as this symbol.
func wantSpelt(t *testing.T, p api.Props, came []byte, y api.Symbol, bits string) {
	t.Helper()
	a := newPair(t, p, max(1, len(came)))
	a.raw(came...)
	if !a.w.apply(y) {
		t.Fatalf("%+v is none that can be put", y)
	}
	wantTaken(t, a.d, coded(bits), []api.Symbol{y}, a.w.came[len(came):])
}

// P15.2: lengths of each way to tell them, spelt by hand, by either length coder.
func TestLengthsByHand(t *testing.T) {
	for n, bits := range map[int]string{
		2: "0 000", 3: "0 001", 6: "0 100", 9: "0 111",
		10: "1 0 000", 11: "1 0 001", 14: "1 0 100", 17: "1 0 111",
		18: "1 1 00000000", 19: "1 1 00000001", 146: "1 1 10000000", 272: "1 1 11111110", 273: "1 1 11111111",
	} {
		for _, p := range boundProps {
			wantSpelt(t, p, count(9), match(n, 1), "1 0"+bits+"000000")
			wantSpelt(t, p, count(9), rep(n, 0), "1 1 0 1"+bits)
			wantSpelt(t, p, count(9), rep(n, 1), "1 1 1 0"+bits)
			wantSpelt(t, p, count(9), rep(n, 2), "1 1 1 1 0"+bits)
			wantSpelt(t, p, count(9), rep(n, 3), "1 1 1 1 1"+bits)
		}
	}
}

// P15.2: distances of each way to tell the rest, spelt by hand: none, a tree of their slot, direct bits and the tree Align.
func TestDistancesByHand(t *testing.T) {
	const came = 300000
	b := make([]byte, came)
	rand.New(rand.NewSource(1522)).Read(b)
	for dist, bits := range map[int]string{
		1: "000000", 2: "000001", 3: "000010", 4: "000011",
		5: "000100 0", 6: "000100 1", 7: "000101 0", 8: "000101 1",
		9: "000110 00", 10: "000110 10", 11: "000110 01", 12: "000110 11",
		97: "001101 00000", 98: "001101 10000", 113: "001101 00001", 128: "001101 11111",
		129: "001110 oo 0000", 130: "001110 oo 1000", 137: "001110 oo 0001", 145: "001110 oi 0000", 161: "001110 io 0000", 192: "001110 ii 1111",
		193: "001111 oo 0000", 210: "001111 oi 1000", 256: "001111 ii 1111",
		1025: "010100 ooooo 0000", 1536: "010100 iiiii 1111", 1537: "010101 ooooo 0000",
		came - 1: "100100 oiooiooiiiioi 0111", came: "100100 oiooiooiiiioi 1111",
	} {
		for n, long := range map[int]string{2: "0 000", 3: "0 001", 4: "0 010", 5: "0 011", 273: "1 1 11111111"} {
			wantSpelt(t, usual, b, match(n, dist), "1 0"+long+bits)
		}
	}
}

// P15.2: every length, of matches and of each rep, behind one another, with properties at their bounds.
func TestEveryLength(t *testing.T) {
	for _, p := range boundProps {
		a := newPair(t, p, 600)
		a.raw(count(600)...)
		for n := api.MinLen; n <= api.MaxLen; n++ {
			a.take(t, match(n, 1+n), rep(n, 0), lit(byte(n)), rep(n, 1), rep(n, 2), rep(n, 3), short())
		}
		a.same(t)
	}
}

// P15.2: every distance up to 600, with the lengths of each tree of slots, behind one another, with properties at their bounds.
func TestEveryDistance(t *testing.T) {
	for _, p := range boundProps {
		a := newPair(t, p, 600)
		a.raw(count(600)...)
		for d := 1; d <= 600; d++ {
			a.take(t, match(2+d%5, d), match(2+(d+2)%5, 601-d))
		}
		a.same(t)
	}
}

// P15.2: the least, the greatest and one between of each slot that a dictionary of some MiB has.
func TestFarDistances(t *testing.T) {
	const came = 1<<23 + 20
	b := make([]byte, came)
	rand.New(rand.NewSource(1523)).Read(b)
	a := newPair(t, usual, came)
	a.raw(b...)
	for k := 7; k < 23; k++ {
		for _, dist := range []int{1<<k + 1, 3<<(k-1) + 1, 3 << (k - 1), 2 << k, 1<<k + 1<<(k-2) + 5} {
			a.take(t, match(2+k%4, dist), lit(byte(k)), rep(7, 0), match(20, came-dist))
		}
	}
	a.take(t, match(273, came), lit(9), match(2, came-1), rep(3, 1))
	a.same(t)
}

// P15.2: every byte as a literal in each state's number, held against what a copy would have gone on with.
func TestEveryLiteral(t *testing.T) {
	l, m, r, s := lit(0), match(2, 5), rep(2, 0), short()
	ways := [][]api.Symbol{{}, {m, l, l}, {r, l, l}, {s, l, l}, {m, l}, {r, l}, {s, l}, {m}, {r}, {s}, {m, m}, {r, r}}
	for k, p := range boundProps {
		a := newPair(t, p, 4096)
		a.raw(count(300)...)
		for num, way := range ways {
			for b := range 256 {
				if (b+k)%3 != 0 && b != int(a.w.back(a.w.s.Reps[0])) {
					continue
				}
				row := append([]api.Symbol{l, l, l, l}, way...)
				a.take(t, row...)
				if a.w.s.Num != num {
					t.Fatalf("the way to %d leads to %d", num, a.w.s.Num)
				}
				a.take(t, lit(byte(b)), lit(byte(b+1)))
			}
		}
		a.same(t)
	}
}

// P15.2: each rep and the short rep, behind matches from four distances that differ.
func TestRepsOfFourDistances(t *testing.T) {
	for _, l := range [][]api.Symbol{{rep(2, 0)}, {rep(2, 1)}, {rep(2, 2)}, {rep(2, 3)}, {short()}, {rep(9, 3), rep(9, 3), short()}, {rep(2, 2), rep(2, 1), rep(2, 0), rep(273, 3)}, {short(), short(), rep(5, 1), lit(3), short()}} {
		a := newPair(t, usual, 300)
		a.raw(count(250)...)
		a.take(t, match(2, 11), match(3, 22), match(4, 33), match(5, 44))
		a.take(t, l...)
		a.take(t, lit(77), rep(2, 0), rep(3, 1), rep(4, 2), rep(5, 3), lit(7), short(), lit(8))
		a.same(t)
	}
}

// P15.2: several Takes one behind the other: what was learnt stays, and what has come before takes fewer bytes.
func TestOneBehindTheOther(t *testing.T) {
	l := []api.Symbol{lit('p'), lit('i'), lit('t'), lit('h'), match(8, 4), rep(20, 1), short()}
	a := newPair(t, usual, 4096)
	var sizes []int
	for range 60 {
		came := len(a.w.came)
		a.w.put(t, l...)
		b := a.w.cut()
		wantTaken(t, a.d, b, l, a.w.came[came:])
		sizes = append(sizes, len(b))
	}
	if sizes[59] >= sizes[0] {
		t.Errorf("the same symbols had %d bytes at first and have %d", sizes[0], sizes[59])
	}
	// One that has learnt nothing reads something else in them.
	a.w.put(t, l...)
	if got, _, errno := made(t, usual, 4096).Take(a.w.cut(), size(l)); errno == api.OK {
		t.Errorf("a new decoder takes %+v", got)
	}
}

// P15.2: cut behind each symbol, or at the end alone: the same symbols, and the same is learnt.
func TestCutEverywhere(t *testing.T) {
	r := rand.New(rand.NewSource(1524))
	for _, p := range boundProps {
		whole, parts := newPair(t, p, 300), newPair(t, p, 300)
		l := whole.w.chance(r, 150)
		whole.take(t, l...)
		for _, y := range l {
			parts.take(t, y)
		}
		if !bytes.Equal(whole.w.came, parts.w.came) {
			t.Fatal("other bytes")
		}
		whole.same(t)
		parts.same(t)
	}
}
