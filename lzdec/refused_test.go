package lzdec_test

import (
	"bytes"
	"fmt"
	"math/rand"
	"slices"
	"testing"

	"pith/api"
)

// plus: the bytes, as one number with the highest first, and k more.
func plus(b []byte, k uint32) []byte {
	b = bytes.Clone(b)
	carry := uint64(k)
	for i := len(b) - 1; i >= 0 && carry > 0; i-- {
		carry += uint64(b[i])
		b[i] = byte(carry)
		carry >>= 8
	}
	return b
}

// leads: rows to stand ahead of a fault in the same bytes: none, one symbol, many.
func leads(a *pair) [][]api.Symbol {
	r := rand.New(rand.NewSource(1531))
	long := a.w.chance(r, 60)
	return [][]api.Symbol{nil, {lit(3)}, long[:min(4, len(long))], long}
}

// everywhere: what a fault makes of a right row, in each situation, from its beginning on and behind leads: bytes, and the n with which they are to be refused; then the decoder is spent.
// fault is handed a scribe behind the lead, and how many bytes that makes.
func everywhere(t *testing.T, fault func(t *testing.T, w *scribe, n int) (packed [][]byte, sizes []int)) {
	for situation, begin := range situations {
		for k := range leads(begin(t)) {
			t.Run(fmt.Sprintf("%s, lead %d", situation, k), func(t *testing.T) {
				wantFaults(t, begin, k, fault)
			})
		}
	}
}

func wantFaults(t *testing.T, begin func(t *testing.T) *pair, k int, fault func(t *testing.T, w *scribe, n int) ([][]byte, []int)) {
	a := begin(t)
	lead := leads(a)[k]
	a.w.put(t, lead...)
	packed, sizes := fault(t, a.w, size(lead))
	for i, b := range packed {
		a := begin(t)
		wantRefused(t, a.d, b, sizes[i], api.ErrFormat)
		if i%50 == 0 {
			wantSpent(t, a)
		}
	}
}

// each: the same number for all.
func each(n, many int) []int { return slices.Repeat([]int{n}, many) }

// P15.2: a first byte that is not 0.
func TestFirstByte(t *testing.T) {
	everywhere(t, func(t *testing.T, w *scribe, n int) (packed [][]byte, sizes []int) {
		w.put(t, lit(200), short())
		b := w.cut()
		for _, first := range []byte{1, 2, 0x7F, 0x80, 0xFF} {
			packed = append(packed, append([]byte{first}, b[1:]...))
		}
		return packed, each(n+2, len(packed))
	})
}

// P15.2: bytes that end too early, at every place; none at all too.
func TestTooEarly(t *testing.T) {
	everywhere(t, func(t *testing.T, w *scribe, n int) (packed [][]byte, sizes []int) {
		w.put(t, lit(200), rep(30, 0), lit(9), match(2, 1))
		b := w.cut()
		for k := range b {
			packed = append(packed, b[:k])
		}
		return packed, each(n+34, len(packed))
	})
}

// P15.2: bytes that end too early, though the code is 0 wherever they end: a literal 0 whose bits come by probabilities of all sorts, all of them zeros. The bit that needs one byte more is the second; the others would not.
func TestTooEarlyWithTheCodeZero(t *testing.T) {
	begin := func(t *testing.T) *pair {
		a := newPair(t, api.Props{}, 4096)
		// The seven last bits of the byte 0 have got cheap,
		a.take(t, slices.Repeat([]api.Symbol{lit(0)}, 300)...)
		// that a literal comes behind two matches has got dear, and that its first bit is not that of the byte back, too.
		a.raw(0x81)
		for range 200 {
			a.take(t, match(2, 1), match(2, 1), match(2, 1), match(2, 1), match(2, 1), match(2, 1), lit(0x81), lit(0x81))
		}
		a.take(t, match(2, 1), match(2, 1))
		return a
	}
	a := begin(t)
	a.w.put(t, lit(0))
	b := a.w.cut()
	if !bytes.Equal(b, make([]byte, 6)) {
		t.Fatalf("the literal 0 is % X", b)
	}
	wantTaken(t, begin(t).d, b, []api.Symbol{lit(0)}, []byte{0})
	for k := range b {
		wantRefused(t, begin(t).d, b[:k], 1, api.ErrFormat)
	}
}

// P15.2: one byte and more that are left, zeros and others.
func TestLeftOver(t *testing.T) {
	everywhere(t, func(t *testing.T, w *scribe, n int) (packed [][]byte, sizes []int) {
		w.put(t, lit(200), rep(30, 0), lit(9), match(2, 1))
		b := w.cut()
		for _, more := range [][]byte{{0}, {1}, {0xFF}, {0, 0}, {7, 8, 9}, make([]byte, 5), make([]byte, 6), b, make([]byte, 70000)} {
			packed = append(packed, slices.Concat(b, more))
		}
		return packed, each(n+34, len(packed))
	})
}

// P15.2: a code that is not 0 at the end: the symbols are the same ones, as long as the code stays within the range, which is 2^24 at least.
func TestCodeAtTheEnd(t *testing.T) {
	everywhere(t, func(t *testing.T, w *scribe, n int) (packed [][]byte, sizes []int) {
		w.put(t, lit(200), rep(30, 0), lit(9), match(2, 1))
		b := w.cut()
		for _, k := range []uint32{1, 2, 3, 127, 128, 255, 256, 257, 65535, 65536, 1<<23 + 1, 1<<24 - 1} {
			packed = append(packed, plus(b, k))
		}
		return packed, each(n+34, len(packed))
	})
}

// P15.2: a match that would make more bytes than n in all, by one up to all but one.
func TestMatchBeyondTheNumber(t *testing.T) {
	for _, long := range []int{2, 3, 10, 273} {
		everywhere(t, func(t *testing.T, w *scribe, n int) ([][]byte, []int) {
			w.put(t, lit(200), match(long, 1))
			b := w.cut()
			var sizes []int
			for m := max(1, long-20); m < long; m++ {
				sizes = append(sizes, n+1+m)
			}
			return slices.Repeat([][]byte{b}, len(sizes)), sizes
		})
	}
}

// P15.2: likewise a rep, of each number.
func TestRepBeyondTheNumber(t *testing.T) {
	for i := range 4 {
		for _, long := range []int{2, 10, 273} {
			everywhere(t, func(t *testing.T, w *scribe, n int) ([][]byte, []int) {
				w.put(t, lit(200), rep(long, i))
				b := w.cut()
				var sizes []int
				for m := max(1, long-5); m < long; m++ {
					sizes = append(sizes, n+1+m)
				}
				return slices.Repeat([][]byte{b}, len(sizes)), sizes
			})
		}
	}
}

// P15.2: symbols that make fewer bytes than n: the bits that are asked for behind them are not there.
func TestFewerThanTheNumber(t *testing.T) {
	everywhere(t, func(t *testing.T, w *scribe, n int) ([][]byte, []int) {
		w.put(t, lit(200), match(20, 1))
		b := w.cut()
		sizes := []int{n + 1000, n + 20000, api.MaxChunk}
		return slices.Repeat([][]byte{b}, len(sizes)), sizes
	})
}

// P15.2: a match from beyond the dictionary, by one and by much, up to the greatest distance and one more (the end that others write), with no bytes in it, some, and as many as it holds.
func TestMatchFromBeyond(t *testing.T) {
	for _, more := range []int{1, 2, 5, 300, 5000, 1 << 20, 1 << 31} {
		for _, long := range []int{2, 5, 273} {
			everywhere(t, func(t *testing.T, w *scribe, n int) ([][]byte, []int) {
				w.write(match(long, w.held()+more))
				return [][]byte{w.cut()}, []int{n + long}
			})
		}
	}
	for _, dist := range []int{api.MaxTold - 1, api.MaxTold, api.MaxTold + 1} {
		for _, long := range []int{2, 3, 4, 5, 100, 273} {
			everywhere(t, func(t *testing.T, w *scribe, n int) ([][]byte, []int) {
				w.write(match(long, dist))
				return slices.Repeat([][]byte{w.cut()}, 2), []int{n + long, max(1, n)}
			})
		}
	}
}

// P15.2: the same in the greatest dictionary, and in one that holds a byte alone.
func TestFarthestOfAll(t *testing.T) {
	for _, dict := range []int{1, api.MaxTold} {
		for _, dist := range []int{2, api.MaxTold, api.MaxTold + 1} {
			a := newPair(t, usual, dict)
			a.raw(7)
			a.take(t, match(2, 1), short(), rep(5, 2))
			if dist == 2 && dict > 1 {
				a.take(t, match(2, dist))
				continue
			}
			a.w.write(match(2, dist))
			wantRefused(t, a.d, a.w.cut(), 2, api.ErrFormat)
			wantSpent(t, a)
		}
	}
}

// P15.2: a rep of each number, and a short rep, with an empty dictionary: of a new decoder, behind Reset, behind Clear, behind raw bytes that are none.
func TestRepFromAnEmptyDictionary(t *testing.T) {
	reps := []api.Symbol{short(), rep(2, 0), rep(2, 1), rep(2, 2), rep(2, 3), rep(273, 0), rep(9, 1), rep(10, 2), rep(18, 3)}
	for _, y := range reps {
		for _, begin := range []func(a *pair){
			func(a *pair) {},
			func(a *pair) { a.reset(t, api.Props{PB: 3}) },
			func(a *pair) { a.raw() },
			func(a *pair) { a.take(t, lit(1), lit(2), match(3, 2)); a.clear() },
			func(a *pair) { a.raw(1, 2, 3); a.clear(); a.reset(t, api.Props{LC: 4}) },
		} {
			a := newPair(t, usual, 4096)
			begin(a)
			a.w.write(y)
			wantRefused(t, a.d, a.w.cut(), size([]api.Symbol{y}), api.ErrFormat)
			wantSpent(t, a)
		}
	}
}

// P15.2: from a dictionary that has bytes no rep is from beyond it: the last distances were in it, and it never holds fewer than before. The farthest of them, at the edge of a full one, are taken.
func TestRepFromTheEdge(t *testing.T) {
	for _, dict := range []int{4, 5, 60} {
		for i := range 4 {
			a := newPair(t, usual, dict)
			a.raw(count(3 * dict)...)
			a.take(t, match(2, dict), match(2, dict-1), match(2, dict-2), match(2, dict-3))
			a.take(t, rep(5, i), short(), lit(1), rep(2, 3))
			a.w.write(match(2, dict+1))
			wantRefused(t, a.d, a.w.cut(), 2, api.ErrFormat)
		}
	}
}

// P15.2: what no range decoder begins with.
func TestNoBeginning(t *testing.T) {
	for _, b := range [][]byte{nil, {}, {0}, {0, 0, 0, 0}, {1, 0, 0, 0}, {0, 255, 255, 255, 255}, {0, 255, 255, 255, 255, 0}, {255, 255, 255, 255, 255, 255}} {
		for _, n := range []int{1, 2, api.MaxChunk} {
			for _, begin := range situations {
				a := begin(t)
				wantRefused(t, a.d, b, n, api.ErrFormat)
				wantSpent(t, a)
			}
		}
	}
}
