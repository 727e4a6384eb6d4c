package parse_test

import (
	"math/rand"
	"slices"
	"strings"
	"testing"

	"pith/api"
	"pith/parse"
	"pith/state"
)

// P16.2: the chapter's examples.
func TestGreedyExamples(t *testing.T) {
	wantGreedy(t, view{strings.Repeat("a", 20), 0, 20, 4096}, state.New(), with(8), lit('a'), rep(19, 0))
	wantGreedy(t, view{"abcabc", 0, 6, 4096}, state.New(), with(7, 3), append(lits("abc"), match(3, 3))...)
	wantGreedy(t, view{"abcabc", 3, 6, 2}, state.New(), state.New(), lits("abc")...)
	wantGreedy(t, view{"abab", 0, 4, 4096}, state.New(), state.New(), lits("abab")...)
	wantGreedy(t, view{"xabab", 3, 5, 4096}, with(0, 2), with(8, 2), rep(2, 0))
	wantGreedy(t, view{"aab", 0, 3, 4096}, state.New(), with(6), lit('a'), short(), lit('b'))
	wantGreedy(t, view{"a", 0, 0, 4096}, with(9, 4, 3, 2, 1), with(9, 4, 3, 2, 1))
}

// P16.2: one byte, behind nothing and behind some.
func TestOneByte(t *testing.T) {
	wantGreedy(t, view{"a", 0, 1, 1}, state.New(), state.New(), lit('a'))
	wantGreedy(t, view{"\x00", 0, 1, api.MaxTold}, with(11, 7, 7, 7, 7), with(5, 7, 7, 7, 7), lit(0))
	wantGreedy(t, view{"aa", 1, 2, 1}, state.New(), with(9), short())
	wantGreedy(t, view{"ab", 1, 2, 1}, state.New(), state.New(), lit('b'))
	wantGreedy(t, view{"aaaa", 2, 3, 4096}, with(0, 2), with(9, 2), short())
}

// behindCount: data of d bytes that differ, the first run of them once more, and one byte that does not go on.
func behindCount(d, run int) string {
	head := count(d)
	return head + head[:run] + "\x00"
}

// P16.2: runs of 1, 2, 3, 272, 273 and more, by each number: a rep of as many bytes, 273 at most; of just one byte a short rep, by the number 0 alone. The match from there, which is as long, is not taken.
func TestRunsOfEachLength(t *testing.T) {
	const d = 500
	for _, run := range []int{1, 2, 3, 4, 17, 18, 271, 272, 273, 274, 275, 300} {
		for number := range 4 {
			s := with(4, 800, 801, 802, 803)
			s.Reps[number] = d
			v := view{behindCount(d, run), d, d + min(run, 273), 4096}
			want := rep(min(run, 273), number)
			if run == 1 {
				want = short()
			}
			if run == 1 && number > 0 {
				want = lit(v.data[d])
			}
			wantGreedy(t, v, s, moved(t, s, want), want)
			v.to = len(v.data)
			l, behind := v.greedy(t, s)
			wantGreedy(t, v, s, behind, l...)
			if l[0] != want {
				t.Errorf("a run of %d: %s", run, shown(l))
			}
		}
	}
}

// P16.2: runs that the piece's end cuts off, though the data go on.
func TestRunsThatAreCutOff(t *testing.T) {
	const d = 500
	data := behindCount(d, 290)
	for _, n := range []int{2, 3, 4, 100, 271, 272, 273} {
		for number := range 4 {
			s := with(0, 800, 801, 802, 803)
			s.Reps[number] = d
			wantGreedy(t, view{data, d, d + n, 4096}, s, moved(t, s, rep(n, number)), rep(n, number))
		}
		if n >= 3 {
			wantGreedy(t, view{data, d, d + n, 4096}, state.New(), with(7, d), match(n, d))
		}
	}
	wantGreedy(t, view{data, d, d + 1, 4096}, with(0, d), with(9, d), short())
	wantGreedy(t, view{data, d, d + 1, 4096}, with(0, 1, d), with(0, 1, d), lit(data[d]))
	wantGreedy(t, view{data, d, d + 2, 4096}, state.New(), state.New(), lits(data[d:d+2])...)
	wantGreedy(t, view{data, d, d + 274, 4096}, with(0, d), with(11, d), rep(273, 0), short())
	wantGreedy(t, view{data, d, d + 276, 4096}, with(0, 1, d), with(11, d, 1), rep(273, 1), rep(3, 0))
}

// P16.2: distances just within and just beyond the dictionary, of reps by each number, of a short rep and of a match.
func TestDistancesAtTheDictionarysEdge(t *testing.T) {
	for _, d := range []int{1, 2, 3, 7, 40, 300} {
		data := "\x00" + behindCount(d, min(d, 2))[:d+min(d, 2)]
		if d == 1 {
			data = "\x00\x01\x01\x01"
		}
		v := view{data, d + 1, d + 3, d}
		for number := range 4 {
			s := with(0, 9001, 9002, 9003, 9004)
			s.Reps[number] = d
			v.dict = d
			wantGreedy(t, v, s, moved(t, s, rep(2, number)), rep(2, number))
			if v.dict = d - 1; d > 1 {
				wantGreedy(t, v, s, moved(t, s, lits(data[d+1:d+3])...), lits(data[d+1:d+3])...)
			}
		}
		s := with(0, d)
		wantGreedy(t, view{data, d + 1, d + 2, d}, s, with(9, d), short())
		if d > 1 {
			wantGreedy(t, view{data, d + 1, d + 2, d - 1}, s, s, lit(data[d+1]))
		}
	}
	for _, d := range []int{3, 4, 40, 300} {
		data := "\x00" + behindCount(d, 3)[:d+3]
		wantGreedy(t, view{data, d + 1, d + 4, d}, with(0, 9001), with(7, d, 9001), match(3, d))
		wantGreedy(t, view{data, d + 1, d + 4, d - 1}, with(0, 9001), with(0, 9001), lits(data[d+1:])...)
	}
}

// P16.2: distances just within and just beyond the place: none reaches ahead of the data.
func TestDistancesAtThePlacesEdge(t *testing.T) {
	for p := 1; p < 12; p++ {
		data := strings.Repeat("a", p+2)
		for number := range 4 {
			s := with(0, 9001, 9002, 9003, 9004)
			s.Reps[number] = p
			wantGreedy(t, view{data, p, p + 2, 4096}, s, moved(t, s, rep(2, number)), rep(2, number))
			s.Reps[number] = p + 1 // usable one place further on only, and one byte is left there
			l := lits("aa")
			if number == 0 {
				l[1] = short()
			}
			wantGreedy(t, view{data, p, p + 2, 4096}, s, moved(t, s, l...), l...)
		}
		wantGreedy(t, view{data, p, p + 1, 4096}, with(0, p), with(9, p), short())
		wantGreedy(t, view{data, p, p + 1, 4096}, with(0, p+1), with(0, p+1), lit('a'))
	}
	for _, s := range []state.State{state.New(), with(0, api.MaxTold, api.MaxTold, api.MaxTold, api.MaxTold)} {
		wantGreedy(t, view{"a", 0, 1, api.MaxTold}, s, s, lit('a'))
	}
}

// P16.2: a rep against a match that is shorter, as long, one longer, two longer and more: two longer the match must be.
func TestRepsAgainstMatches(t *testing.T) {
	for _, r := range []int{2, 3, 4, 10, 100} {
		for more := range 6 {
			head := count(300)
			long := head[:r+more] + "\xFE"
			near := head[:r] + "\xFF"
			data := long + near + head[:r+more] + "\xFD"
			from := len(long) + len(near)
			v := view{data, from, from + r + more, 4096}
			for number := range 4 {
				s := with(0, 9001, 9002, 9003, 9004)
				s.Reps[number] = len(near)
				if r+1 >= r+more || r+more < 3 {
					l, behind := v.greedy(t, s)
					wantGreedy(t, v, s, behind, l...)
					if l[0] != rep(r, number) {
						t.Errorf("a rep of %d, a match of %d: %s", r, r+more, shown(l))
					}
					continue
				}
				want := match(r+more, from)
				wantGreedy(t, v, s, moved(t, s, want), want)
			}
		}
	}
}

// P16.2: a run of 1 is no rep, by any number: a match of 3 goes ahead of it, of the short rep too.
func TestRunsOfOneAgainstMatches(t *testing.T) {
	v := view{"abcXa-abc", 6, 9, 4096}
	for number := range 4 {
		s := with(0, 9001, 9002, 9003, 9004)
		s.Reps[number] = 2
		wantGreedy(t, v, s, moved(t, s, match(3, 6)), match(3, 6))
	}
}

// P16.2: of the four distances the one with the longest run; of equally long ones the lowest number, also of equal distances.
func TestWhichOfTheFour(t *testing.T) {
	data := "ab" + "abcde" + "abc" + "abcd" + "Zabcdefg"
	from := strings.Index(data, "Z") + 1
	one, two, three, four := 5, 8, 13, 15 // runs of 4, 3, 5 and 2
	for _, c := range []struct {
		reps   [4]int
		number int
		run    int
	}{
		{[4]int{one, two, three, four}, 2, 5},
		{[4]int{three, one, two, four}, 0, 5},
		{[4]int{four, two, one, three}, 3, 5},
		{[4]int{two, three, three, three}, 1, 5},
		{[4]int{three, three, three, three}, 0, 5},
		{[4]int{four, four, two, two}, 2, 3},
		{[4]int{9001, one, one, two}, 1, 4},
		{[4]int{1, 9001, one, two}, 2, 4},
	} {
		s := state.State{Reps: c.reps}
		v := view{data, from, from + 5, 4096}
		l, behind := v.greedy(t, s)
		wantGreedy(t, v, s, behind, l...)
		if c.run >= 4 && l[0] != rep(c.run, c.number) {
			t.Errorf("distances %v: %s; want a rep of %d, number %d", c.reps, shown(l), c.run, c.number)
		}
		v.to = from + c.run
		if c.run < 4 {
			wantGreedy(t, v, s, moved(t, s, rep(c.run, c.number)), rep(c.run, c.number))
		}
	}
	periodic := strings.Repeat("abc", 40)
	for _, reps := range [][4]int{{3, 6, 9, 12}, {12, 9, 6, 3}, {6, 6, 3, 3}, {3, 3, 3, 3}} {
		s := state.State{Reps: reps}
		wantGreedy(t, view{periodic, 30, 60, 4096}, s, moved(t, s, rep(30, 0)), rep(30, 0))
		s.Reps[0] = 4
		wantGreedy(t, view{periodic, 30, 60, 4096}, s, moved(t, s, rep(30, 1)), rep(30, 1))
		s.Reps[1] = 100
		wantGreedy(t, view{periodic, 30, 60, 4096}, s, moved(t, s, rep(30, 2)), rep(30, 2))
	}
}

// P16.2: a short rep where the first distance has a run of 1; a literal where another one has, or where the first is not usable.
func TestShortReps(t *testing.T) {
	wantGreedy(t, view{"abxay", 3, 5, 4096}, with(0, 3), with(6, 3), short(), lit('y'))
	wantGreedy(t, view{"abxay", 3, 5, 4096}, with(0, 9, 3, 3, 3), with(0, 9, 3, 3, 3), lits("ay")...)
	wantGreedy(t, view{"abxay", 3, 5, 2}, with(0, 3), with(0, 3), lits("ay")...)
	wantGreedy(t, view{"abxay", 3, 5, 4096}, with(0, 2), with(0, 2), lits("ay")...)
	wantGreedy(t, view{"aab", 0, 3, 1}, with(9, 1), with(6, 1), lit('a'), short(), lit('b'))
	wantGreedy(t, view{"aab", 0, 3, 1}, with(0, 2), with(0, 2), lits("aab")...)
}

// P16.2: the state moves from symbol to symbol: what a match copied from is a rep later.
func TestTheStateMovesOn(t *testing.T) {
	data := "abcdXabcdYabcdZ"
	want := append(lits("abcdX"), match(4, 5), lit('Y'), rep(4, 0), lit('Z'))
	wantGreedy(t, view{data, 0, 15, 4096}, state.New(), moved(t, state.New(), want...), want...)
	data = "abcdeXfghijYabcdeZabcdefghijW"
	v := view{data, 12, len(data), 4096}
	l, behind := v.greedy(t, state.New())
	wantGreedy(t, v, state.New(), behind, l...)
}

// P16.2: of many places with the same three bytes the 32 nearest are looked at; a longer match further back is not seen.
func TestFarPlacesAreNotSeen(t *testing.T) {
	for _, between := range []int{30, 31, 32, 33} {
		data := "abcde"
		for i := range between {
			data += "abc" + string([]byte{byte(i + 128)})
		}
		from := len(data)
		v := view{data + "abcde", from, from + 5, 4096}
		want := []api.Symbol{match(5, from)}
		if between >= 32 {
			want = append([]api.Symbol{match(3, 4)}, lits("de")...)
		}
		s := with(0, 9001)
		wantGreedy(t, v, s, moved(t, s, want...), want...)
	}
}

// P16.2: a piece is taken by itself: what stands behind it, and further ahead of it than the dictionary, is not looked at; what stands within the dictionary is.
func TestOnlyThePieceAndItsDictionaryCount(t *testing.T) {
	r := rand.New(rand.NewSource(1621))
	for range 300 {
		v := chanceView(r, 1+r.Intn(200), 1+r.Intn(3))
		s := chanceState(r, 30)
		l, behind, _ := parse.Greedy([]byte(v.data), v.from, v.to, v.dict, s)
		plan, _ := parse.Plan([]byte(v.data), v.from, v.to, v.dict)
		other := []byte(v.data + "aaaaaabcabc"[:r.Intn(12)])
		for i := v.to; i < len(other); i++ {
			other[i] = byte('a' + r.Intn(3))
		}
		for i := 0; i < v.from-v.dict; i++ {
			other[i] = byte('a' + r.Intn(3))
		}
		m, again, errno := parse.Greedy(other, v.from, v.to, v.dict, s)
		if !slices.Equal(l, m) || again != behind || errno != api.OK {
			t.Fatalf("%+v: %s, then %s", v, shown(l), shown(m))
		}
		if other, errno := parse.Plan(other, v.from, v.to, v.dict); !slices.Equal(plan, other) || errno != api.OK {
			t.Fatalf("%+v: %s, then %s", v, shown(plan), shown(other))
		}
	}
	wantGreedy(t, view{"abcdefg--abcdefg", 9, 16, 9}, with(0, 9001), with(7, 9, 9001), match(7, 9))
	wantGreedy(t, view{"abcdefg--abcdefg", 11, 13, 9}, with(0, 9001, 9), with(8, 9, 9001), rep(2, 1))
}

// P16.2: what the words say, of all texts of up to seven bytes a and b, from each place to each.
func TestGreedyOfAllShortTexts(t *testing.T) {
	for n := range 8 {
		for k := range 1 << n {
			data := make([]byte, n)
			for i := range data {
				data[i] = byte('a' + k>>i&1)
			}
			for from := range n + 1 {
				for _, s := range []state.State{state.New(), with(7, 3, 2, 4, 1)} {
					v := view{string(data), from, n, 4}
					l, behind := v.greedy(t, s)
					wantGreedy(t, v, s, behind, l...)
				}
			}
		}
	}
}

// P16.2: what the words say, of data, pieces, dictionaries and states of chance.
func TestGreedyOfChance(t *testing.T) {
	r := rand.New(rand.NewSource(1622))
	kinds := map[int]int{}
	for range 1500 {
		v := chanceView(r, 1+r.Intn(500), 1+r.Intn(4))
		s := chanceState(r, 1+r.Intn(60))
		l, behind := v.greedy(t, s)
		wantGreedy(t, v, s, behind, l...)
		for _, y := range l {
			kinds[y.Kind]++
		}
	}
	for kind := api.SymLit; kind <= api.SymShort; kind++ {
		if kinds[kind] < 500 {
			t.Errorf("the kind %d was met %d times", kind, kinds[kind])
		}
	}
}
