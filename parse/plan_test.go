package parse_test

import (
	"math/rand"
	"strings"
	"testing"

	"pith/api"
	"pith/parse"
)

// P16.4: the chapter's example, and others.
func TestPlanExamples(t *testing.T) {
	twenty := strings.Repeat("a", 20)
	wantPlan(t, view{twenty, 0, 20, 4096}, lit('a'), match(19, 1))
	wantPrices(t, 9+18, api.OK, lit('a'), match(19, 1))
	wantPlan(t, view{"abcabc", 0, 6, 4096}, append(lits("abc"), match(3, 3))...)
	wantPlan(t, view{"abcXabc", 0, 7, 4096}, append(lits("abcX"), match(3, 4))...)
	wantPlan(t, view{"a", 0, 1, 1}, lit('a'))
	wantPlan(t, view{"aa", 1, 2, 1}, lit('a'))
	wantPlan(t, view{"aaaa", 1, 3, 1}, lit('a'), lit('a'))
	wantPlan(t, view{"aaaa", 1, 4, 1}, match(3, 1))
}

// P16.4: pieces that begin behind the front, and end ahead of the data's end; the dictionary just reaches, or lacks one.
func TestPlansOfPiecesWithin(t *testing.T) {
	data := "abcdefgh--abcdefgh--abcdefgh"
	wantPlan(t, view{data, 10, 18, 4096}, match(8, 10))
	wantPlan(t, view{data, 10, 18, 10}, match(8, 10))
	wantPlan(t, view{data, 10, 18, 9}, lits("abcdefgh")...)
	wantPlan(t, view{data, 12, 15, 4096}, match(3, 10))
	wantPlan(t, view{data, 12, 14, 4096}, lits("cd")...)
	wantPlan(t, view{data, 20, 28, 4096}, match(8, 10))
	wantPlan(t, view{data, 0, 8, 4096}, lits("abcdefgh")...)
	wantPlan(t, view{"abcabc", 3, 6, 3}, match(3, 3))
	wantPlan(t, view{"abcabc", 3, 6, 2}, lits("abc")...)
}

// P16.4: where a match ends at 273 bytes: what is left is a literal, or a match, for which the first one may be shortened.
func TestPlansBehindTheLongestMatch(t *testing.T) {
	for _, c := range []struct {
		n    int
		want []api.Symbol
	}{
		{271, []api.Symbol{match(271, 1)}},
		{272, []api.Symbol{match(272, 1)}},
		{273, []api.Symbol{match(273, 1)}},
		{274, []api.Symbol{match(273, 1), lit('a')}},
		{275, []api.Symbol{match(272, 1), match(3, 1)}},
		{276, []api.Symbol{match(273, 1), match(3, 1)}},
		{277, []api.Symbol{match(273, 1), match(4, 1)}},
		{282, []api.Symbol{match(273, 1), match(9, 1)}},
		{283, []api.Symbol{match(273, 1), match(10, 1)}},
		{290, []api.Symbol{match(273, 1), match(17, 1)}},
		{291, []api.Symbol{match(273, 1), match(18, 1)}},
		{546, []api.Symbol{match(273, 1), match(273, 1)}},
		{547, []api.Symbol{match(273, 1), match(273, 1), lit('a')}},
		{548, []api.Symbol{match(273, 1), match(272, 1), match(3, 1)}},
	} {
		v := view{strings.Repeat("a", 1+c.n), 1, 1 + c.n, 4096}
		if _, price := v.plan(); price != sum(c.want) {
			t.Errorf("%d bytes: the price is %d, the least one %d", c.n, sum(c.want), price)
		}
		wantPlan(t, v, c.want...)
	}
}

// P16.4: of plans of one price the one with the longer step where they first differ; of equally long steps the one with the lesser distance.
func TestPlansOfOnePrice(t *testing.T) {
	apart := "\x01\x02\x03\x04\x05\x06\x07\x08\x09\x0A\x0B\x0C\x0D"
	shared := "abcdef" + "\x01" + "efghij" + "\x02" + "abcdefghij" // e and f are reached by both
	many := strings.Repeat("a", 300)
	for i, c := range []struct {
		v          view
		want, also []api.Symbol
	}{
		// the match, then a literal; the literal, then a match
		{view{"bcd-" + "abcd" + apart + "abcd-", 21, 26, 4096}, []api.Symbol{match(4, 17), lit('-')}, []api.Symbol{lit('a'), match(4, 22)}},
		{view{many, 4, 4 + 274, 4096}, []api.Symbol{match(273, 1), lit('a')}, []api.Symbol{lit('a'), match(273, 1)}},
		// what two matches reach goes to the first
		{view{shared, 14, 24, 4096}, []api.Symbol{match(6, 14), match(4, 11)}, []api.Symbol{match(5, 14), match(5, 11)}},
		{view{shared, 14, 24, 4096}, []api.Symbol{match(6, 14), match(4, 11)}, []api.Symbol{match(4, 14), match(6, 11)}},
		{view{many, 4, 4 + 276, 4096}, []api.Symbol{match(273, 1), match(3, 1)}, []api.Symbol{match(272, 2), match(4, 3)}},
		{view{many, 4, 4 + 276, 4096}, []api.Symbol{match(273, 1), match(3, 1)}, []api.Symbol{match(3, 1), match(273, 1)}},
		// distances of one slot
		{view{"aaaa" + "xy" + "aaa", 6, 9, 4096}, []api.Symbol{match(3, 5)}, []api.Symbol{match(3, 6)}},
		{view{"abcabc" + "\x01\x02\x03\x04\x05\x06" + "abc", 12, 15, 4096}, []api.Symbol{match(3, 9)}, []api.Symbol{match(3, 12)}},
		// slots without bits
		{view{many, 4, 7, 4096}, []api.Symbol{match(3, 1)}, []api.Symbol{match(3, 4)}},
		{view{strings.Repeat("ab", 20), 10, 19, 4096}, []api.Symbol{match(9, 2)}, []api.Symbol{match(9, 4)}},
	} {
		if _, price := c.v.plan(); sum(c.want) != price || sum(c.also) != price {
			t.Errorf("row %d: the prices are %d and %d, the least one is %d", i, sum(c.want), sum(c.also), price)
		}
		if !c.v.isPlan(c.want) || !c.v.isPlan(c.also) {
			t.Errorf("row %d: no plans", i)
		}
		wantPlan(t, c.v, c.want...)
	}
}

// isPlan: is it a plan of the piece?
func (v view) isPlan(l []api.Symbol) bool {
	p := v.from
	for _, y := range l {
		there := false
		for _, step := range v.steps(min(p, v.to-1)) {
			there = there || step == y
		}
		if p >= v.to || !there {
			return false
		}
		p += size(y)
	}
	return p == v.to
}

// P16.4: a match is shortened where another one behind it is the cheaper for it.
func TestShortenedMatches(t *testing.T) {
	v := view{"abcdef" + "\x01" + "fgh" + "\x02" + "abcdefgh", 11, 19, 4096}
	wantPlan(t, v, match(5, 11), match(3, 9))
	l, behind := v.greedy(t, with(0, 9001))
	wantGreedy(t, v, with(0, 9001), behind, l...)
	if l[0] != match(6, 11) {
		t.Errorf("what comes first is %s", shown(l))
	}
}

// P16.4: a match from far away is dear: a nearer, shorter one and a literal may cost less.
func TestNearAndFar(t *testing.T) {
	for _, c := range []struct {
		apart int
		want  []api.Symbol
	}{{50, []api.Symbol{match(4, 55)}}, {6000, []api.Symbol{match(3, 1), lit('b')}}} {
		data := "aaab" + strings.Repeat("xy", c.apart/2) + "aaaab"
		wantPlan(t, view{data, len(data) - 4, len(data), 1 << 20}, c.want...)
	}
	// three bytes cost from further than 2^16 as much as three literals, and stay a match; from further than 2^17 more
	for _, c := range []struct {
		dist int
		want []api.Symbol
	}{{65536, []api.Symbol{match(3, 65536)}}, {65537, []api.Symbol{match(3, 65537)}}, {131072, []api.Symbol{match(3, 131072)}}, {131073, lits("abc")}, {262145, lits("abc")}} {
		data := "abc" + strings.Repeat("z", c.dist-3) + "abc"
		wantPlan(t, view{data, c.dist, c.dist + 3, 1 << 20}, c.want...)
	}
}

// plans: all that there are from p on, behind those steps.
func (v view) plans(p int, behind []api.Symbol, each func([]api.Symbol)) {
	if p == v.to {
		each(behind)
		return
	}
	for _, y := range v.steps(p) {
		v.plans(p+size(y), append(behind, y), each)
	}
}

// ahead: is the plan l to be answered, of the two?
func ahead(l, m []api.Symbol) bool {
	if sum(l) != sum(m) {
		return sum(l) < sum(m)
	}
	for i := range min(len(l), len(m)) {
		if l[i] != m[i] {
			return before(l[i], m[i])
		}
	}
	return false
}

// wantOfAll: Plan's answer is a plan, and goes ahead of all others.
func wantOfAll(t *testing.T, v view) {
	t.Helper()
	var best []api.Symbol
	first := true
	v.plans(v.from, nil, func(l []api.Symbol) {
		if first || ahead(l, best) {
			best = append([]api.Symbol{}, l...)
		}
		first = false
	})
	wantPlan(t, v, best...)
	if l, price := v.plan(); sum(best) != price || len(l) != len(best) {
		t.Errorf("%+v: reckoned from the end on it is %s", v, shown(l))
	}
}

// P16.4, P16.7: held against every plan there is, of all texts of up to nine bytes a and b, and from each place of them.
func TestPlanOfAllPlans(t *testing.T) {
	for n := range 10 {
		for k := range 1 << n {
			data := make([]byte, n)
			for i := range data {
				data[i] = byte('a' + k>>i&1)
			}
			for from := 0; from <= n; from += 2 {
				wantOfAll(t, view{string(data), from, n, 4096})
			}
			wantOfAll(t, view{string(data), 0, n, 2})
		}
	}
}

// P16.4, P16.7: likewise, of pieces of chance with more ahead of them.
func TestPlanOfAllPlansOfChance(t *testing.T) {
	r := rand.New(rand.NewSource(1641))
	for range 400 {
		v := chanceView(r, 1+r.Intn(60), 2+r.Intn(3))
		v.to = min(v.to, v.from+9)
		wantOfAll(t, v)
	}
}

// P16.4: what the words say, of data, pieces, dictionaries and states of chance.
func TestPlanOfChance(t *testing.T) {
	r := rand.New(rand.NewSource(1642))
	for i := range 300 {
		v := chanceView(r, 1+r.Intn(500), 2+i%4)
		l, price := v.plan()
		wantPlan(t, v, l...)
		if n, errno := parse.Prices(l...); n != price && v.from < v.to || errno != api.OK {
			t.Fatalf("Prices of %s: %d, error %d; want %d", shown(l), n, errno, price)
		}
	}
	for _, n := range []int{30, 300, 600} {
		for _, of := range []string{"a", "ab", "abc", "aab", "abcdefghijk"} {
			v := view{strings.Repeat(of, n)[:n], 0, n, 4096}
			l, _ := v.plan()
			wantPlan(t, v, l...)
		}
	}
}

// P16.7: no plan of chance is cheaper, also of long data; and the answer is a plan.
func TestNothingIsCheaper(t *testing.T) {
	r := rand.New(rand.NewSource(1671))
	for i := range 40 {
		v := chanceView(r, 200+r.Intn(1500), 2+i%5)
		l, errno := parse.Plan([]byte(v.data), v.from, v.to, v.dict)
		if errno != api.OK || !v.isPlan(l) {
			t.Fatalf("%s is no plan, error %d", shown(l), errno)
		}
		for range 20 {
			if m := v.chancePlan(r); sum(m) < sum(l) {
				t.Fatalf("%s costs %d, %s costs %d", shown(l), sum(l), shown(m), sum(m))
			}
		}
		if m := v.longestFirst(); sum(m) < sum(l) {
			t.Fatalf("%s costs %d, %s costs %d", shown(l), sum(l), shown(m), sum(m))
		}
	}
}

// chancePlan: one of all plans.
func (v view) chancePlan(r *rand.Rand) []api.Symbol {
	l := []api.Symbol{}
	for p := v.from; p < v.to; {
		y := lit(v.data[p])
		if list := v.matches(p); len(list) > 0 && r.Intn(4) > 0 {
			m := list[r.Intn(len(list))]
			y = match(m.Len, m.Dist)
			if r.Intn(2) == 0 {
				y.Len = 3 + r.Intn(m.Len-2)
			}
		}
		l = append(l, y)
		p += size(y)
	}
	return l
}

// longestFirst: the plan that takes the longest match at each place.
func (v view) longestFirst() []api.Symbol {
	l := []api.Symbol{}
	for p := v.from; p < v.to; {
		y := lit(v.data[p])
		if m := v.best(p); m.Len > 0 {
			y = match(m.Len, m.Dist)
		}
		l = append(l, y)
		p += size(y)
	}
	return l
}
