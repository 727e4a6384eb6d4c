package finder_test

import (
	"math/rand"
	"strings"
	"testing"

	"pith/api"
)

// P11.3, P11.4: at every place of data of all kinds, with every dictionary.
func TestEveryPlace(t *testing.T) {
	for _, data := range texts() {
		for _, dict := range dicts {
			newPair(t, data, dict).through(t, 3, 4, 273)
		}
	}
}

// P11.3: of at most most bytes: all edges of most, at places with short, long and very long matches.
func TestMost(t *testing.T) {
	for _, data := range []string{strings.Repeat("a", 700), strings.Repeat("abcd", 200), "abcdefXabcYabcZabcdefabcde"} {
		for _, dict := range []int{1, 4, 15, 4096} {
			p := newPair(t, data, dict)
			for p.left() > 0 {
				p.same(t, mosts...)
				p.skip(t, min(p.left(), 1+len(data)/20))
			}
		}
	}
}

// P11.3: with most below 3 there are none, with 3 and more there are, up to MaxLen.
func TestMostWrittenOut(t *testing.T) {
	f := standing(t, strings.Repeat("a", 600), 4096, 1)
	for _, most := range []int{least, -1, 0, 1, 2} {
		wantNone(t, f, most)
	}
	for _, c := range []struct{ most, n int }{{3, 3}, {4, 4}, {272, 272}, {273, 273}, {274, 273}, {greatest, 273}} {
		wantMatches(t, f, c.most, api.Match{Len: c.n, Dist: 1})
		wantBest(t, f, c.most, c.n, 1)
	}
}

// P11.3: a match ends with the data: just as long as what is left, at 274 bytes left and fewer, down to three; then there is none.
func TestMatchesEndWithTheData(t *testing.T) {
	const n = 400
	for _, left := range []int{275, 274, 273, 272, 100, 4, 3, 2, 1, 0} {
		f := standing(t, strings.Repeat("a", n), 1, n-left)
		if left < 3 {
			wantNone(t, f, 273)
		} else {
			wantMatches(t, f, 1000, api.Match{Len: min(left, 273), Dist: 1})
		}
	}
}

// P11.3: matches that are 272, 273 and 274 bytes long in the data: never above MaxLen, and the nearest of those that reach it is the best.
func TestMatchesAsLongAsMaxLen(t *testing.T) {
	r := rand.New(rand.NewSource(1131))
	word := chanceText(r, 400, 256)
	for _, n := range []int{271, 272, 273, 274, 300} {
		data := word[:n] + "!?" + word[:n] + "?!" + word
		f := standing(t, data, 4096, 2*n+4)
		wantMatches(t, f, 273, api.Match{Len: min(n, 273), Dist: n + 2}, api.Match{Len: min(n, 273), Dist: 2*n + 4})
		wantBest(t, f, greatest, min(n, 273), n+2)
	}
}

// P11.3: a match may run into itself: from every distance below its length.
func TestMatchesRunIntoThemselves(t *testing.T) {
	for d := 1; d <= 40; d++ {
		word := ""
		for k := range d {
			word += string(rune('A' + k))
		}
		data := strings.Repeat(word, 12)
		f := standing(t, data, 4096, d)
		wantMatches(t, f, 1000, api.Match{Len: min(273, 11*d), Dist: d})
	}
}

// P11.3: a candidate at just the dictionary's distance counts, one further does not, though nothing nearer is there.
func TestTheDictionarysDistance(t *testing.T) {
	r := rand.New(rand.NewSource(1132))
	for _, d := range []int{3, 4, 5, 32, 100, 4096, 5000} {
		between := make([]byte, d-3)
		for i := range between {
			between[i] = byte('0' + r.Intn(10))
		}
		data := "abc" + string(between) + "abc!"
		for _, dict := range []int{d, d + 1, api.MaxTold} {
			wantMatches(t, standing(t, data, dict, d), 273, api.Match{Len: 3, Dist: d})
		}
		wantNone(t, standing(t, data, d-1, d), 273)
		wantNone(t, standing(t, data, 1, d), 273)
	}
	f := standing(t, strings.Repeat("a", 60), 7, 50)
	if got := gone(f, 273); len(got) != 7 || got[6] != (api.Match{Len: 10, Dist: 7}) {
		t.Errorf("with a dictionary of 7: %v", got)
	}
}

// P11.3: a place whose third byte is another, or whose bytes stand in another order, is no candidate.
func TestThreeBytesAreAsked(t *testing.T) {
	for _, data := range []string{"abxabyabc", "cbabcaabc", "bcabacabc", "abbabcabd", "\x01\x00\x00\x00\x01\x00\x00\x00\x01"} {
		newPair(t, data, 4096).through(t, 3, 273)
	}
	wantNone(t, standing(t, "abxabyabc", 4096, 6), 273)
	wantMatches(t, standing(t, "abcabyabc", 4096, 6), 273, api.Match{Len: 3, Dist: 6})
}

// P11.3: every three bytes are told from every other: two that differ in one bit of one byte are not the same.
func TestEveryBitCounts(t *testing.T) {
	for i := range 3 {
		for bit := range 8 {
			b := []byte("klmklm")
			b[i] ^= 1 << bit
			wantNone(t, standing(t, string(b), 4096, 3), 273)
		}
	}
}

// P11.3: 31, 32 and 33 candidates, of which the furthest would be the longest: the 33rd is not looked at.
func TestDepth(t *testing.T) {
	for _, n := range []int{1, 2, 31, 32, 33, 34, 63, 64, 65, 66, 100, 200} {
		data := "abcLONG" + strings.Repeat("abcx", n-1) + "abcLONG"
		f := standing(t, data, 4096, len(data)-7)
		got := gone(f, 273)
		if len(got) != min(n, 32) {
			t.Fatalf("%d candidates: %d matches", n, len(got))
		}
		if n <= 32 {
			wantBest(t, f, 273, 7, 7+4*(n-1))
		} else {
			wantBest(t, f, 273, 3, 4)
		}
		for k, m := range got {
			if n <= 32 && k == n-1 {
				break
			}
			if m != (api.Match{Len: 3, Dist: 4 * (k + 1)}) {
				t.Errorf("%d candidates: the match %d is %v", n, k, m)
			}
		}
	}
}

// P11.3: candidates beyond the dictionary are none of the 32, those within it are counted from the nearest on.
func TestDepthAndDictionary(t *testing.T) {
	data := strings.Repeat("abcx", 60) + "abcLONG"
	for _, n := range []int{1, 30, 31, 32, 33, 40} {
		for _, more := range []int{0, 1, 3} {
			f := standing(t, data, 4*n+more, 240)
			if got := gone(f, 273); len(got) != min(n, 32) {
				t.Errorf("%d candidates within the dictionary: %d matches", n, len(got))
			}
		}
	}
}

// P11.3: the nearest first, each distance once, at data of chance.
func TestNearestFirst(t *testing.T) {
	r := rand.New(rand.NewSource(1133))
	for _, kinds := range []int{1, 2, 3} {
		f := made(t, chanceText(r, 500, kinds), 300)
		for f.Pos() < 500 {
			last := 0
			for m := range f.Matches(273) {
				if m.Dist <= last {
					t.Fatalf("at %d: the distance %d behind %d", f.Pos(), m.Dist, last)
				}
				last = m.Dist
			}
			skip(t, f, 1)
		}
	}
}
