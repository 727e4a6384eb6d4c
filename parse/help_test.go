package parse_test

import (
	"math/rand"
	"slices"
	"strings"
	"testing"

	"pith/api"
	"pith/parse"
	"pith/state"
)

// The greatest and the least int.
const (
	greatest = 1<<63 - 1
	least    = -1 << 63
)

// lengths: of matches and reps, the bounds of their prices among them.
var lengths = []int{2, 3, 4, 8, 9, 10, 11, 16, 17, 18, 19, 100, 272, 273}

// noLengths: those that no match and no rep has.
var noLengths = []int{least, least + 1, -1 << 32, -273, -2, -1, 0, 1, 274, 275, 1<<32 + 2, 1 << 62, greatest - 1, greatest}

// noDistances: those that no state and no match has.
var noDistances = []int{least, least + 1, -1 << 32, -2, -1, 0, api.MaxTold + 1, api.MaxTold + 2, 1<<33 + 1, 1 << 62, greatest - 1, greatest}

// noDicts: dictionaries that the finder refuses.
var noDicts = []int{least, least + 1, -1 << 32, -4096, -2, -1, 0, api.MaxTold + 1, api.MaxTold + 2, 1 << 33, 1 << 62, greatest - 1, greatest}

func lit(b byte) api.Symbol { return api.Symbol{Kind: api.SymLit, Byte: b} }

func match(n, dist int) api.Symbol { return api.Symbol{Kind: api.SymMatch, Len: n, Dist: dist} }

func rep(n, i int) api.Symbol { return api.Symbol{Kind: api.SymRep, Len: n, Dist: i} }

func short() api.Symbol { return api.Symbol{Kind: api.SymShort} }

// lits: a literal for each byte.
func lits(text string) []api.Symbol {
	l := []api.Symbol{}
	for i := range len(text) {
		l = append(l, lit(text[i]))
	}
	return l
}

// with: a state; the distances that are not said are 1.
func with(num int, reps ...int) state.State {
	s := state.State{Num: num, Reps: [4]int{1, 1, 1, 1}}
	copy(s.Reps[:], reps)
	return s
}

// size: how many bytes a formed symbol makes.
func size(y api.Symbol) int {
	if y.Kind == api.SymMatch || y.Kind == api.SymRep {
		return y.Len
	}
	return 1
}

// moved: the state behind symbols.
func moved(t *testing.T, s state.State, l ...api.Symbol) state.State {
	t.Helper()
	for _, y := range l {
		next, errno := s.Next(y)
		if errno != api.OK {
			t.Fatalf("%+v behind %+v: error %d", y, s, errno)
		}
		s = next
	}
	return s
}

// count: n bytes; three of them in a row are met again after 251 times 199 bytes only.
func count(n int) string {
	b := make([]byte, n)
	for i := range b {
		b[i] = byte(i%251 + i/251*7 + 1)
	}
	return string(b)
}

// view: a piece, by the words of the chapter.
type view struct {
	data           string
	from, to, dict int
}

// usable: can a byte at p be copied from that distance?
func (v view) usable(p, d int) bool { return d >= 1 && d <= p && d <= v.dict }

// run: of a distance at p; 0, if it is not usable.
func (v view) run(p, d int) int {
	n := 0
	for v.usable(p, d) && n < 273 && p+n < v.to && v.data[p+n] == v.data[p+n-d] {
		n++
	}
	return n
}

// matches: the finder's at p: of the 32 nearest places with the same three bytes, the nearest first.
func (v view) matches(p int) []api.Match {
	list := []api.Match{}
	for d := 1; v.to-p >= 3 && v.usable(p, d) && len(list) < 32; d++ {
		if n := v.run(p, d); n >= 3 {
			list = append(list, api.Match{Len: n, Dist: d})
		}
	}
	return list
}

// best: the longest of them, the nearest of several.
func (v view) best(p int) api.Match {
	best := api.Match{}
	for _, m := range v.matches(p) {
		if m.Len > best.Len {
			best = m
		}
	}
	return best
}

// first: what Greedy takes at p.
func (v view) first(p int, s state.State) api.Symbol {
	r, number := 0, 0
	for i, d := range s.Reps {
		if n := v.run(p, d); n >= 2 && n > r {
			r, number = n, i
		}
	}
	m := v.best(p)
	if r != 0 && r+1 >= m.Len {
		return rep(r, number)
	}
	if m.Len != 0 {
		return match(m.Len, m.Dist)
	}
	if v.run(p, s.Reps[0]) == 1 {
		return short()
	}
	return lit(v.data[p])
}

// greedy: what Greedy answers.
func (v view) greedy(t *testing.T, s state.State) ([]api.Symbol, state.State) {
	t.Helper()
	l := []api.Symbol{}
	for p := v.from; p < v.to; {
		y := v.first(p, s)
		l, s = append(l, y), moved(t, s, y)
		p += size(y)
	}
	return l, s
}

// steps: all that a plan may have at p.
func (v view) steps(p int) []api.Symbol {
	l := []api.Symbol{lit(v.data[p])}
	for _, m := range v.matches(p) {
		for n := 3; n <= m.Len; n++ {
			l = append(l, match(n, m.Dist))
		}
	}
	return l
}

// plan: what Plan answers, and its price, reckoned from the end on, place by place, over all steps.
func (v view) plan() ([]api.Symbol, int) {
	price, step := make([]int, v.to+1), make([]api.Symbol, v.to+1)
	for p := v.to - 1; p >= v.from; p-- {
		price[p] = greatest
		for _, y := range v.steps(p) {
			n := told(y) + price[p+size(y)]
			if n < price[p] || n == price[p] && before(y, step[p]) {
				price[p], step[p] = n, y
			}
		}
	}
	l := []api.Symbol{}
	for p := v.from; p < v.to; p += size(step[p]) {
		l = append(l, step[p])
	}
	return l, price[v.from]
}

// before: of two steps at one place in plans of one price: does the plan with y go ahead of that with z?
func before(y, z api.Symbol) bool {
	if size(y) != size(z) {
		return size(y) > size(z)
	}
	return y.Dist < z.Dist
}

// named: a plan's steps, by the state.
func (v view) named(t *testing.T, plan []api.Symbol, s state.State) ([]api.Symbol, state.State) {
	t.Helper()
	l, p := []api.Symbol{}, v.from
	for _, y := range plan {
		z := y
		switch {
		case y.Kind == api.SymLit && v.usable(p, s.Reps[0]) && v.data[p-s.Reps[0]] == v.data[p]:
			z = short()
		case y.Kind == api.SymMatch:
			for i := 3; i >= 0; i-- {
				if s.Reps[i] == y.Dist {
					z = rep(y.Len, i)
				}
			}
		}
		l, s = append(l, z), moved(t, s, z)
		p += size(y)
	}
	return l, s
}

// told: the price of a formed symbol, by the words.
func told(y api.Symbol) int {
	long := 10
	if y.Len <= 17 {
		long = 5
	}
	if y.Len <= 9 {
		long = 4
	}
	switch y.Kind {
	case api.SymLit:
		return 9
	case api.SymShort:
		return 4
	case api.SymRep:
		return []int{4, 4, 5, 5}[y.Dist] + long
	}
	return 8 + long + slotBits(y.Dist)
}

// slotBits: how many bits stand behind the two first binary digits of a distance less 1.
func slotBits(dist int) int {
	bits := 0
	for x := dist - 1; x > 3; x /= 2 {
		bits++
	}
	return bits
}

func sum(l []api.Symbol) int {
	n := 0
	for _, y := range l {
		n += told(y)
	}
	return n
}

// wantGreedy: just these symbols, and that state behind them.
func wantGreedy(t *testing.T, v view, s state.State, behind state.State, want ...api.Symbol) {
	t.Helper()
	l, next, errno := parse.Greedy([]byte(v.data), v.from, v.to, v.dict, s)
	if errno != api.OK || !slices.Equal(l, want) || next != behind {
		t.Errorf("Greedy of %.40q, %d bytes, %d to %d, dictionary %d, behind %+v: %s, %+v, error %d; want %s, %+v", v.data, len(v.data), v.from, v.to, v.dict, s, shown(l), next, errno, shown(want), behind)
	}
}

// wantPlan: just these steps.
func wantPlan(t *testing.T, v view, want ...api.Symbol) {
	t.Helper()
	l, errno := parse.Plan([]byte(v.data), v.from, v.to, v.dict)
	if errno != api.OK || !slices.Equal(l, want) {
		t.Errorf("Plan of %.40q, %d bytes, %d to %d, dictionary %d: %s, price %d, error %d; want %s, price %d", v.data, len(v.data), v.from, v.to, v.dict, shown(l), sum(l), errno, shown(want), sum(want))
	}
}

// wantCheap: likewise, with the state behind them.
func wantCheap(t *testing.T, v view, s state.State, behind state.State, want ...api.Symbol) {
	t.Helper()
	l, next, errno := parse.Cheap([]byte(v.data), v.from, v.to, v.dict, s)
	if errno != api.OK || !slices.Equal(l, want) || next != behind {
		t.Errorf("Cheap of %.40q, %d bytes, %d to %d, dictionary %d, behind %+v: %s, %+v, error %d; want %s, %+v", v.data, len(v.data), v.from, v.to, v.dict, s, shown(l), next, errno, shown(want), behind)
	}
}

// wantAll: each of the three answers what the words say.
func wantAll(t *testing.T, v view, s state.State) {
	t.Helper()
	greedy, behind := v.greedy(t, s)
	wantGreedy(t, v, s, behind, greedy...)
	plan, _ := v.plan()
	wantPlan(t, v, plan...)
	named, behind := v.named(t, plan, s)
	wantCheap(t, v, s, behind, named...)
	if t.Failed() {
		t.Fatalf("the data are %q", v.data)
	}
}

// wantError: each of the three is refused with it, and answers nothing else; Plan, which has no state, with its own.
func wantError(t *testing.T, data []byte, from, to, dict int, s state.State, want, ofPlan api.Errno) {
	t.Helper()
	none := state.State{}
	if l, next, errno := parse.Greedy(data, from, to, dict, s); len(l) != 0 || next != none || errno != want {
		t.Errorf("Greedy of %d bytes, %d to %d, dictionary %d, behind %+v: %s, %+v, error %d; want error %d", len(data), from, to, dict, s, shown(l), next, errno, want)
	}
	if l, next, errno := parse.Cheap(data, from, to, dict, s); len(l) != 0 || next != none || errno != want {
		t.Errorf("Cheap of %d bytes, %d to %d, dictionary %d, behind %+v: %s, %+v, error %d; want error %d", len(data), from, to, dict, s, shown(l), next, errno, want)
	}
	if l, errno := parse.Plan(data, from, to, dict); ofPlan != api.OK && len(l) != 0 || errno != ofPlan {
		t.Errorf("Plan of %d bytes, %d to %d, dictionary %d: %s, error %d; want error %d", len(data), from, to, dict, shown(l), errno, ofPlan)
	}
}

// shown: symbols in few letters.
func shown(l []api.Symbol) string {
	var b strings.Builder
	for i, y := range l {
		if i == 40 {
			b.WriteString(" ..")
			break
		}
		switch y.Kind {
		case api.SymLit:
			b.WriteString(" L" + hex(int(y.Byte)))
		case api.SymMatch:
			b.WriteString(" M" + hex(y.Len) + "/" + hex(y.Dist))
		case api.SymRep:
			b.WriteString(" R" + hex(y.Len) + "/" + hex(y.Dist))
		case api.SymShort:
			b.WriteString(" S")
		default:
			b.WriteString(" ?")
		}
	}
	return "[" + strings.TrimSpace(b.String()) + "]"
}

// hex: of a number from 0 on.
func hex(n int) string {
	if n < 16 {
		return "0123456789ABCDEF"[n : n+1]
	}
	return hex(n/16) + hex(n%16)
}

// chanceText: n bytes out of so many different ones, with pieces of what stands ahead repeated now and then.
func chanceText(r *rand.Rand, n, kinds int) string {
	b := []byte{}
	for len(b) < n {
		if len(b) > 0 && r.Intn(6) == 0 {
			from, more := r.Intn(len(b)), r.Intn(30)
			if r.Intn(15) == 0 {
				more = 250 + r.Intn(60)
			}
			for k := range more {
				b = append(b, b[from+k])
			}
		}
		b = append(b, byte('a'+r.Intn(kinds)))
	}
	return string(b[:n])
}

// chanceView: a piece of such data, with a dictionary that often is less than the data.
func chanceView(r *rand.Rand, n, kinds int) view {
	data := chanceText(r, n, kinds)
	from := r.Intn(n + 1)
	if r.Intn(3) == 0 {
		from = 0
	}
	to := from + r.Intn(n-from+1)
	if r.Intn(3) == 0 {
		to = n
	}
	dict := []int{1, 2, 3, 5, 1 + r.Intn(n), n, api.MaxTold}[r.Intn(7)]
	return view{data, from, to, dict}
}

// chanceState: a right one, with distances up to so much, and some that are far.
func chanceState(r *rand.Rand, far int) state.State {
	s := with(r.Intn(12))
	for i := range s.Reps {
		s.Reps[i] = 1 + r.Intn(far)
		switch r.Intn(8) {
		case 0:
			s.Reps[i] = api.MaxTold - r.Intn(3)
		case 1:
			s.Reps[i] = 1 + r.Intn(4)
		}
	}
	return s
}
