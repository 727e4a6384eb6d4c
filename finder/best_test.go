package finder_test

import (
	"math/rand"
	"strings"
	"testing"

	"pith/api"
)

// P11.4: the longest, wherever it lies; of equally long ones the nearest; none, if there is none.
func TestBest(t *testing.T) {
	for _, c := range []struct {
		data         string
		pos, n, dist int
	}{
		{"abcdefXabcYabcZabcdefabcde", 15, 6, 15},
		{"abcdefXabcYabcZabcdefabcde", 21, 5, 6},
		{"abcdefXabcYabcZabcdefabcde", 7, 3, 7},
		{"abcdefXabcYabcZabcdefabcde", 11, 3, 4},
		{"abcd1abcde2abc3abcd", 15, 4, 10},
		{"abcd1abcde2abc3abcde", 15, 5, 10},
		{"abcd1abcd2abcd3abcd", 15, 4, 5},
		{"abcd1abcd2abcd1abcd", 10, 9, 10},
		{"abcd1abcd2abc3abcd", 14, 4, 9},
		{"abc1abc2abc3abc", 12, 3, 4},
		{"abcdefgh", 5, 0, 0},
		{"abab", 2, 0, 0},
		{"ababa", 2, 3, 2},
	} {
		wantBest(t, standing(t, c.data, 4096, c.pos), 273, c.n, c.dist)
	}
}

// P11.4: equally long by what most allows: then the nearest counts, though a further one is longer in the data.
func TestBestOfEqualOnes(t *testing.T) {
	f := standing(t, "abcdefXabcdYabcZabcdefg", 4096, 16)
	wantMatches(t, f, 273, api.Match{Len: 3, Dist: 4}, api.Match{Len: 4, Dist: 9}, api.Match{Len: 6, Dist: 16})
	for _, c := range []struct{ most, n, dist int }{{2, 0, 0}, {3, 3, 4}, {4, 4, 9}, {5, 5, 16}, {6, 6, 16}, {7, 6, 16}} {
		wantBest(t, f, c.most, c.n, c.dist)
	}
	for n := 1; n <= 40; n++ {
		data := strings.Repeat("abcdX", n) + "abcdY"
		wantBest(t, standing(t, data, 4096, 5*n), 273, 4, 5)
	}
}

// P11.4, P11.5: Best is one of the matches; each match's bytes do stand there, its distance is within the dictionary and the data, and it could not be longer.
func TestTheyAreThere(t *testing.T) {
	r := rand.New(rand.NewSource(1151))
	for _, kinds := range []int{1, 2, 3, 5, 256} {
		for _, dict := range []int{1, 10, 200, api.MaxTold} {
			data := chanceText(r, 600, kinds)
			f := made(t, data, dict)
			for f.Pos() < len(data) {
				most := 3 + r.Intn(300)
				best := f.Best(most)
				met := best == api.Match{}
				for m := range f.Matches(most) {
					wantThere(t, data, f.Pos(), dict, most, m)
					met = met || m == best
					if m.Len > best.Len {
						t.Fatalf("at %d: Best is %v, and there is %v", f.Pos(), best, m)
					}
				}
				if !met {
					t.Fatalf("at %d: Best is %v, which is none of the matches", f.Pos(), best)
				}
				skip(t, f, 1)
			}
		}
	}
}

// wantThere: the match holds in the data, and ends where it must.
func wantThere(t *testing.T, data string, pos, dict, most int, m api.Match) {
	t.Helper()
	if m.Dist < 1 || m.Dist > dict || m.Dist > pos || m.Len < 3 || m.Len > most || m.Len > 273 || pos+m.Len > len(data) {
		t.Fatalf("at %d, with the dictionary %d, of at most %d bytes: %v", pos, dict, most, m)
	}
	for j := range m.Len {
		if data[pos-m.Dist+j] != data[pos+j] {
			t.Fatalf("at %d: %v: the byte %d is another", pos, m, j)
		}
	}
	if m.Len < most && m.Len < 273 && pos+m.Len < len(data) && data[pos-m.Dist+m.Len] == data[pos+m.Len] {
		t.Fatalf("at %d: %v could be longer", pos, m)
	}
}

// P11.6: where at most Depth places have the same three bytes, Best is as long as anything that can be copied at all, from any distance.
func TestNoneIsMissed(t *testing.T) {
	r := rand.New(rand.NewSource(1161))
	asked := 0
	for _, kinds := range []int{2, 3, 4, 26} {
		for _, dict := range []int{1, 2, 40, 150, 1000} {
			u := &walk{data: chanceText(r, 500, kinds), dict: dict}
			f := made(t, u.data, dict)
			for ; u.pos < len(u.data); u.pos++ {
				longest, places := 0, 0
				for d := 1; d <= min(dict, u.pos); d++ {
					n := u.run(u.pos-d, 273)
					longest = max(longest, n)
					if n >= 3 {
						places++
					}
				}
				if longest < 3 {
					longest = 0
				}
				if places <= 32 {
					asked++
					if m := f.Best(273); m.Len != longest {
						t.Fatalf("at %d: Best is %v, and %d bytes can be copied", u.pos, m, longest)
					}
				}
				skip(t, f, 1)
			}
		}
	}
	if asked < 5000 {
		t.Errorf("asked %d times alone", asked)
	}
}

// P11.6: with just 32 places the furthest of them is still found.
func TestTheThirtySecondIsFound(t *testing.T) {
	for far := range 32 {
		data := ""
		for k := range 32 {
			if k == far {
				data += "abcLONG."
			} else {
				data += "abc" + string(rune('0'+k)) + "...."
			}
		}
		f := standing(t, data+"abcLONG!", 4096, len(data))
		wantBest(t, f, 273, 7, 8*(32-far))
	}
}
