package symbol_test

import (
	"bytes"
	"math/rand"
	"slices"
	"strings"
	"testing"

	"pith/api"
	"pith/symbol"
)

// P13.2: the chapter's examples.
func TestExamples(t *testing.T) {
	wantRow(t, 10, strings.Repeat("a", 20), lit('a'), rep(19, 0))
	wantRow(t, 10, "ababababxbx", lit('a'), lit('b'), match(5, 2), short(), lit('x'), rep(2, 0))
	wantNoRow(t, 10, 1, api.ErrRange, lit('a'), match(2, 2))
	wantNoRow(t, 10, 0, api.ErrRange, rep(2, 0))
	wantNoRow(t, 10, 0, api.ErrRange, short())
	wantNoRow(t, 3, 4, api.ErrRange, lit('a'), lit('b'), lit('c'), lit('d'), match(2, 4))
	wantRow(t, 4, "abcdab", lit('a'), lit('b'), lit('c'), lit('d'), match(2, 4))
	wantNoRow(t, 0, 0, api.ErrRange)
	wantRow(t, 10, "")
	wantNoRow(t, 10, 1, api.ErrConfig, lit('a'), api.Symbol{})
	wantNoRow(t, 10, 1, api.ErrRange, lit('a'), match(274, 1))
	wantRow(t, 10, "abcabccccccc", lit('a'), lit('b'), lit('c'), match(3, 3), match(2, 1), rep(4, 1))
}

// P13.2: the dictionary's edges, with no symbols and with some. Of one that there is not the error is window.New's, ahead of every symbol's.
func TestDictionaries(t *testing.T) {
	for _, dict := range []int{1, 2, 4096, 1 << 31, api.MaxTold - 1, api.MaxTold} {
		wantRow(t, dict, "")
		wantRow(t, dict, "aaaabbb", lit('a'), short(), rep(2, 3), lit('b'), match(2, 1))
		wantNoRow(t, dict, 0, api.ErrConfig, api.Symbol{}, lit('a'))
	}
	for _, dict := range []int{0, api.MaxTold + 1, -1, -2, 1<<32 + 1, 1 << 62, -1 << 32, -1<<32 + 1, least, least + 1, greatest} {
		wantNoRow(t, dict, 0, api.ErrRange)
		wantNoRow(t, dict, 0, api.ErrRange, lit('a'))
		wantNoRow(t, dict, 0, api.ErrRange, lit('a'), rep(2, 0), api.Symbol{})
		wantNoRow(t, dict, 0, api.ErrRange, api.Symbol{})
	}
}

// P13.2: with the dictionary 1 the last byte alone can be copied.
func TestDictionaryOfOneByte(t *testing.T) {
	wantRow(t, 1, "abbbcccc", lit('a'), lit('b'), match(2, 1), lit('c'), rep(3, 0))
	wantNoRow(t, 1, 2, api.ErrRange, lit('a'), lit('b'), match(2, 2))
	wantNoRow(t, 2, 3, api.ErrRange, lit('a'), lit('b'), match(2, 2), match(2, 3))
}

// P13.2, W4: no symbols, in whichever form.
func TestNoSymbols(t *testing.T) {
	for _, l := range [][]api.Symbol{nil, {}, make([]api.Symbol, 0, 9), {lit('a')}} {
		wantRow(t, 10, "", l[:0]...)
		wantNoRow(t, 0, 0, api.ErrRange, l[:0]...)
	}
}

// P13.2: the first, a middle and the last symbol refused: how many there were ahead of it, and its error; what stands behind it is not looked at.
func TestEachPlaceRefused(t *testing.T) {
	right := []api.Symbol{lit('a'), lit('b'), match(5, 2), short(), lit('x'), rep(2, 0), lit('y'), rep(3, 2)}
	for _, c := range []struct {
		y    api.Symbol
		want api.Errno
	}{
		{api.Symbol{}, api.ErrConfig}, {api.Symbol{Kind: 5, Len: 2, Dist: 1}, api.ErrConfig}, {api.Symbol{Kind: -1}, api.ErrConfig},
		{match(2, 99), api.ErrRange}, {match(1, 1), api.ErrRange}, {match(274, 1), api.ErrRange}, {match(2, 0), api.ErrRange}, {rep(2, 4), api.ErrRange}, {rep(1, 0), api.ErrRange}, {rep(2, -1), api.ErrRange},
	} {
		for i := range len(right) + 1 {
			wantNoRow(t, 30, i, c.want, slices.Insert(slices.Clone(right), i, c.y)...)
			wantNoRow(t, 30, i, c.want, append(slices.Clone(right[:i]), c.y, api.Symbol{Kind: 9}, match(-1, -1))...)
		}
	}
}

// P13.2: the first of several that are refused is told, with its own error.
func TestTheFirstFaultIsTold(t *testing.T) {
	wantNoRow(t, 10, 1, api.ErrRange, lit('a'), match(2, 2), api.Symbol{})
	wantNoRow(t, 10, 1, api.ErrConfig, lit('a'), api.Symbol{}, match(2, 2))
	wantNoRow(t, 10, 2, api.ErrRange, lit('a'), short(), rep(2, 7), api.Symbol{})
}

// P13.2: the distances of the beginning, which are 1, can be asked for as soon as a byte has come, and not earlier.
func TestRepsTooEarly(t *testing.T) {
	for i := range 4 {
		wantNoRow(t, 10, 0, api.ErrRange, rep(2, i), lit('a'))
		wantRow(t, 10, "aaa", lit('a'), rep(2, i))
	}
	wantNoRow(t, 10, 0, api.ErrRange, short(), lit('a'))
	wantRow(t, 10, "aa", lit('a'), short())
}

// P13.2: each rep, of four distances that differ, and a short rep behind it from the distance that it brought to the front.
func TestFourDistances(t *testing.T) {
	begin := append(symbol.Literals([]byte("abcdefgh")), match(2, 8), match(2, 7), match(2, 6), match(2, 12))
	made := "abcdefgh" + "ab" + "de" + "gh" + "cd"
	wantRow(t, 50, made, begin...)
	for i, want := range []string{"efxh", "dexh", "bdxg", "abxe"} {
		wantRow(t, 50, made+want, append(slices.Clone(begin), rep(2, i), lit('x'), short())...)
	}
}

// P13.2: rows by chance make what the words say, with small dictionaries and great ones; rows longer than their dictionary too.
func TestRows(t *testing.T) {
	r := rand.New(rand.NewSource(1321))
	for _, dict := range []int{1, 2, 3, 5, 10, 64, 273, 1000, 4096, api.MaxTold} {
		for range 40 {
			u := chanceRow(r, dict, r.Intn(60))
			if b := expanded(t, dict, u.l); !bytes.Equal(b, u.made) {
				t.Fatalf("%v with the dictionary %d: % X, want % X", u.l, dict, b, u.made)
			}
		}
	}
}

// P13.2: right and wrong symbols by chance: as many as there are ahead of the first that the words refuse.
func TestRightAndWrongMixed(t *testing.T) {
	r := rand.New(rand.NewSource(1322))
	counts := map[api.Errno]int{}
	for range 3000 {
		dict := 1 + r.Intn(40)
		u := chanceRow(r, dict, r.Intn(20))
		l, want := slices.Clone(u.l), api.OK
		for range 10 {
			y := chanceSymbol(r, 60)
			if r.Intn(8) == 0 {
				y.Kind = noKinds[r.Intn(len(noKinds))]
			}
			if r.Intn(8) == 0 {
				y.Len = noLengths[r.Intn(len(noLengths))]
			}
			l = append(l, y)
			if want == api.OK && !u.take(y) {
				_, _, want = meant(dict, u.made, u.s, y)
			}
		}
		counts[want]++
		if want == api.OK {
			wantRow(t, dict, string(u.made), l...)
		} else {
			wantNoRow(t, dict, len(u.l), want, l...)
		}
	}
	if counts[api.OK] < 10 || counts[api.ErrConfig] < 100 || counts[api.ErrRange] < 100 {
		t.Errorf("the answers were %v", counts)
	}
}

// P13.2: a row far longer than its dictionary, and its last byte that is in it.
func TestLongerThanItsDictionary(t *testing.T) {
	data := bytes.Repeat(count(100), 20)
	for _, dict := range []int{1, 5, 99, 100, 101} {
		l := append(symbol.Literals(data), match(9, dict))
		from := data[len(data)-dict:]
		wantRow(t, dict, string(data)+string(bytes.Repeat(from, 9)[:9]), l...)
		l[len(data)].Dist++
		wantNoRow(t, dict, len(data), api.ErrRange, l...)
	}
}
