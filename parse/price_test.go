package parse_test

import (
	"math/rand"
	"slices"
	"testing"

	"pith/api"
	"pith/parse"
	"pith/state"
)

// wantPrice: of a symbol that is formed.
func wantPrice(t *testing.T, y api.Symbol, want int) {
	t.Helper()
	if n, errno := parse.Price(y); n != want || errno != api.OK {
		t.Errorf("Price(%+v): %d, error %d; want %d", y, n, errno, want)
	}
	wantPrices(t, want, api.OK, y)
}

// wantNoPrice: the symbol is refused.
func wantNoPrice(t *testing.T, y api.Symbol, want api.Errno) {
	t.Helper()
	if n, errno := parse.Price(y); n != 0 || errno != want {
		t.Errorf("Price(%+v): %d, error %d; want error %d", y, n, errno, want)
	}
	wantPrices(t, 0, want, y)
}

// wantPrices: of symbols, added up.
func wantPrices(t *testing.T, want int, wantErr api.Errno, l ...api.Symbol) {
	t.Helper()
	if n, errno := parse.Prices(l...); n != want || errno != wantErr {
		t.Errorf("Prices(%s): %d, error %d; want %d, error %d", shown(l), n, errno, want, wantErr)
	}
}

// P16.3: the chapter's examples.
func TestPriceExamples(t *testing.T) {
	wantPrice(t, match(3, 1), 12)
	wantPrice(t, match(18, 5), 19)
	wantPrice(t, match(273, 4294967295), 48)
	wantPrice(t, rep(2, 0), 8)
	wantPrice(t, rep(10, 3), 10)
	wantNoPrice(t, api.Symbol{}, api.ErrConfig)
}

// P16.3: literals and short reps, of each byte, with anything where the kind does not look.
func TestPricesOfSingleBytes(t *testing.T) {
	for b := range 256 {
		wantPrice(t, lit(byte(b)), 9)
		wantPrice(t, api.Symbol{Kind: api.SymShort, Byte: byte(b)}, 4)
	}
	for _, x := range noLengths {
		for _, y := range noDistances {
			wantPrice(t, api.Symbol{Kind: api.SymLit, Len: x, Dist: y}, 9)
			wantPrice(t, api.Symbol{Kind: api.SymShort, Byte: 3, Len: x, Dist: y}, 4)
		}
	}
}

// P16.3: reps of each length with each number: the bounds are 9 and 17, and behind the number 1.
func TestPricesOfReps(t *testing.T) {
	for n := 2; n <= 273; n++ {
		long := 10
		if n < 18 {
			long = 5
		}
		if n < 10 {
			long = 4
		}
		for i, front := range []int{4, 4, 5, 5} {
			wantPrice(t, rep(n, i), front+long)
			wantPrice(t, api.Symbol{Kind: api.SymRep, Byte: 200, Len: n, Dist: i}, front+long)
		}
	}
}

// P16.3: matches of each length, from the bounds of each slot.
func TestPricesOfMatches(t *testing.T) {
	for slot := range 64 {
		low, bits, _ := state.Range(slot)
		for n := 2; n <= 273; n++ {
			long := []int{4, 5, 10}[min((n+6)/8, 3)-1]
			for _, d := range []int{low, min(low+1<<bits-1, api.MaxTold)} {
				wantPrice(t, match(n, d), 8+long+bits)
			}
		}
	}
	for _, c := range [][3]int{{2, 1, 12}, {9, 4, 12}, {10, 4, 13}, {17, 4, 13}, {18, 4, 18}, {9, 5, 13}, {9, 8, 13}, {9, 9, 14}, {9, 16, 14}, {9, 17, 15}, {3, 4096, 22}, {3, 4097, 23}, {2, 1 << 31, 41}, {2, 1<<31 + 1, 42}} {
		wantPrice(t, match(c[0], c[1]), c[2])
	}
	wantPrice(t, api.Symbol{Kind: api.SymMatch, Byte: 7, Len: 9, Dist: 4}, 12)
}

// P16.3: what state refuses has its error: a kind that is none, and a length, a number or a distance just beyond its bounds and far.
func TestNoPrices(t *testing.T) {
	for _, kind := range []int{least, -1, 0, 5, 6, 1 << 32, 1<<32 + 1, greatest} {
		wantNoPrice(t, api.Symbol{Kind: kind}, api.ErrConfig)
		wantNoPrice(t, api.Symbol{Kind: kind, Byte: 9, Len: 5, Dist: 2}, api.ErrConfig)
		wantNoPrice(t, api.Symbol{Kind: kind, Len: -1, Dist: -1}, api.ErrConfig)
	}
	for _, n := range noLengths {
		wantNoPrice(t, match(n, 1), api.ErrRange)
		wantNoPrice(t, match(n, 0), api.ErrRange)
		wantNoPrice(t, rep(n, 0), api.ErrRange)
		wantNoPrice(t, rep(n, 4), api.ErrRange)
	}
	for _, n := range lengths {
		for _, d := range noDistances {
			wantNoPrice(t, match(n, d), api.ErrRange)
		}
		for _, i := range []int{least, -1 << 32, -1, 4, 5, 1 << 32, greatest} {
			wantNoPrice(t, rep(n, i), api.ErrRange)
		}
	}
}

// P16.3: none, few and many, added up.
func TestPricesAddedUp(t *testing.T) {
	wantPrices(t, 0, api.OK)
	wantPrices(t, 0, api.OK, []api.Symbol{}...)
	wantPrices(t, 9+4+12+8, api.OK, lit(1), short(), match(9, 4), rep(9, 1))
	wantPrices(t, 9+9, api.OK, lit(1), lit(1))
	l, want := []api.Symbol{}, 0
	for i := range 100000 {
		l = append(l, lit(byte(i)), match(273, api.MaxTold), rep(20, 2))
		want += 9 + 48 + 15
	}
	wantPrices(t, want, api.OK, l...)
	r := rand.New(rand.NewSource(1631))
	for range 300 {
		l := chanceRow(r, r.Intn(40))
		wantPrices(t, sum(l), api.OK, l...)
	}
}

// chanceRow: n formed symbols.
func chanceRow(r *rand.Rand, n int) []api.Symbol {
	l := []api.Symbol{}
	for range n {
		long := lengths[r.Intn(len(lengths))]
		l = append(l, []api.Symbol{lit(byte(r.Intn(256))), short(), rep(long, r.Intn(4)), match(long, 1+r.Intn(api.MaxTold)>>r.Intn(32))}[r.Intn(4)])
	}
	return l
}

// P16.3: a refused symbol at each place; of several the first one's error.
func TestPricesWithOneRefused(t *testing.T) {
	r := rand.New(rand.NewSource(1632))
	bad := []struct {
		y     api.Symbol
		errno api.Errno
	}{{api.Symbol{}, api.ErrConfig}, {match(1, 1), api.ErrRange}, {rep(2, 4), api.ErrRange}, {api.Symbol{Kind: 9}, api.ErrConfig}}
	for n := range 12 {
		for at := range n + 1 {
			for _, one := range bad {
				l := slices.Insert(chanceRow(r, n), at, one.y)
				wantPrices(t, 0, one.errno, l...)
				for _, other := range bad {
					wantPrices(t, 0, one.errno, append(l, other.y)...)
					wantPrices(t, 0, other.errno, append([]api.Symbol{other.y}, l...)...)
				}
			}
		}
	}
}

// P16.3: a symbol's price hangs on the symbol alone, and slots never make a further distance cheaper.
func TestPricesNeverFall(t *testing.T) {
	for _, n := range lengths {
		before := 0
		for d := 1; d <= api.MaxTold; d += 1 + d/300 {
			price, errno := parse.Price(match(n, d))
			if price < before || errno != api.OK {
				t.Fatalf("a match of %d from %d: %d, error %d, behind %d", n, d, price, errno, before)
			}
			before = price
		}
	}
}
