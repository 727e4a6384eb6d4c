package parse_test

import (
	"math/rand"
	"slices"
	"strings"
	"testing"

	"pith/api"
	"pith/parse"
	"pith/state"
)

// P16.5: the chapter's example.
func TestCheapExample(t *testing.T) {
	v := view{strings.Repeat("a", 20), 0, 20, 4096}
	wantCheap(t, v, state.New(), with(8), lit('a'), rep(19, 0))
	wantPrices(t, 9+14, api.OK, lit('a'), rep(19, 0))
}

// P16.5: a literal is a short rep, if the first distance is usable and its byte is that one; of the other three none counts.
func TestLiteralsByTheState(t *testing.T) {
	for num := range 12 {
		wantCheap(t, view{"xa-a", 3, 4, 4096}, with(num, 2), moved(t, with(num, 2), short()), short())
		wantCheap(t, view{"xa-a", 3, 4, 4096}, with(num, 3, 2, 2, 2), moved(t, with(num, 3, 2, 2, 2), lit('a')), lit('a'))
		wantCheap(t, view{"xa-b", 3, 4, 4096}, with(num, 2), moved(t, with(num, 2), lit('b')), lit('b'))
	}
}

// P16.5: the first distance just within and just beyond the place, and the dictionary.
func TestLiteralsAtTheEdge(t *testing.T) {
	for p := range 8 {
		data := strings.Repeat("a", p+1)
		for d := 1; d < 12; d++ {
			for dict := 1; dict < 12; dict++ {
				s := with(0, d)
				want := lit('a')
				if d <= p && d <= dict {
					want = short()
				}
				wantCheap(t, view{data, p, p + 1, dict}, s, moved(t, s, want), want)
			}
		}
		far := with(0, api.MaxTold, 1, 1, 1)
		wantCheap(t, view{data, p, p + 1, api.MaxTold}, far, far, lit('a'))
	}
}

// P16.5: short reps where Greedy takes none: a run of two or more by the first distance, which Plan tells by literals.
func TestShortRepsInARow(t *testing.T) {
	wantCheap(t, view{"ab-ab", 3, 5, 4096}, with(0, 3), with(11, 3), short(), short())
	wantGreedy(t, view{"ab-ab", 3, 5, 4096}, with(0, 3), with(8, 3), rep(2, 0))
	wantCheap(t, view{"aab", 0, 3, 4096}, state.New(), with(6), lit('a'), short(), lit('b'))
}

// P16.5: a match is the rep with the lowest number whose distance it has, whatever its length; else it stays.
func TestMatchesByTheState(t *testing.T) {
	data := "abcdefgh--abcdefgh"
	for n := 3; n <= 8; n++ {
		v := view{data, 10, 10 + n, 4096}
		for number := range 4 {
			s := with(5, 7001, 7002, 7003, 7004)
			s.Reps[number] = 10
			wantCheap(t, v, s, moved(t, s, rep(n, number)), rep(n, number))
			for also := number + 1; also < 4; also++ {
				s.Reps[also] = 10
				wantCheap(t, v, s, moved(t, s, rep(n, number)), rep(n, number))
			}
		}
		s := with(5, 9, 11, 20, 1)
		wantCheap(t, v, s, moved(t, s, match(n, 10)), match(n, 10))
	}
}

// P16.5: the distances 1 to 3 of a match are no numbers of reps, and a literal's step has none.
func TestSmallDistances(t *testing.T) {
	for d := 1; d <= 3; d++ {
		data := strings.Repeat("abc"[:d], 8)
		s := with(0, 70, 71, 72, 73)
		v := view{data, d, d + 6, 4096}
		wantCheap(t, v, s, moved(t, s, match(6, d)), match(6, d))
		s.Reps[3] = d
		wantCheap(t, v, s, moved(t, s, rep(6, 3)), rep(6, 3))
	}
}

// P16.5: the state moves with each symbol: a distance that came is a rep later, by the number that it has then.
func TestNamesAlongTheWay(t *testing.T) {
	one, two := "abcdefghijkl", "mnopqrstuvwx"
	data := one + two + "\x01" + one + "\x02" + two + "\x03" + "qrst" + "\x04" + two
	v := view{data, 24, len(data), 4096}
	plan, _ := v.plan()
	s := state.New()
	l, behind := v.named(t, plan, s)
	wantCheap(t, v, s, behind, l...)
	want := []api.Symbol{lit(1), match(12, 25), lit(2), match(12, 26), lit(3), match(4, 9), lit(4), match(12, 18)}
	wantCheap(t, v, s, moved(t, s, want...), want...)
	data = one + "\x01" + one + "\x02" + one + "\x03\x04" + one + "\x05" + one
	v = view{data, 12, len(data), 4096}
	want = []api.Symbol{lit(1), match(12, 13), lit(2), rep(12, 0), lit(3), lit(4), match(12, 14), lit(5), rep(12, 1)}
	wantCheap(t, v, s, moved(t, s, want...), want...)
}

// P16.5: of Plan's answer step by step, with the state as it is there, of data, pieces and states of chance.
func TestCheapOfChance(t *testing.T) {
	r := rand.New(rand.NewSource(1651))
	kinds := map[int]int{}
	numbers := [4]int{}
	for range 2500 {
		v := chanceView(r, 1+r.Intn(400), 1+r.Intn(4))
		s := chanceState(r, 1+r.Intn(40))
		plan, errno := parse.Plan([]byte(v.data), v.from, v.to, v.dict)
		if errno != api.OK {
			t.Fatalf("error %d", errno)
		}
		l, behind := v.named(t, plan, s)
		wantCheap(t, v, s, behind, l...)
		for _, y := range l {
			kinds[y.Kind]++
			if y.Kind == api.SymRep {
				numbers[y.Dist]++
			}
		}
	}
	if kinds[api.SymLit] < 500 || kinds[api.SymMatch] < 500 || kinds[api.SymShort] < 500 || slices.Min(numbers[:]) < 30 {
		t.Errorf("the kinds %v and the numbers %v were met", kinds, numbers)
	}
}

// P16.5: each name costs at most what the step costs, for a rep and a short rep are cheaper than a match and a literal.
func TestCheapIsNoDearer(t *testing.T) {
	r := rand.New(rand.NewSource(1652))
	for range 300 {
		v := chanceView(r, 1+r.Intn(300), 1+r.Intn(4))
		plan, _ := parse.Plan([]byte(v.data), v.from, v.to, v.dict)
		l, _, _ := parse.Cheap([]byte(v.data), v.from, v.to, v.dict, chanceState(r, 20))
		if len(l) != len(plan) {
			t.Fatalf("%d steps, %d symbols", len(plan), len(l))
		}
		for i := range l {
			if told(l[i]) > told(plan[i]) || size(l[i]) != size(plan[i]) {
				t.Fatalf("%+v is told as %+v", plan[i], l[i])
			}
		}
	}
}
