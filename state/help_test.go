package state_test

import (
	"math/rand"
	"slices"
	"strconv"
	"testing"

	"pith/api"
	"pith/state"
)

// The greatest and the least int.
const (
	greatest = 1<<63 - 1
	least    = -1 << 63
)

// kinds: the four, in the order of the chapter's table.
var kinds = []int{api.SymLit, api.SymMatch, api.SymRep, api.SymShort}

// noKinds: numbers that are none of the four.
var noKinds = []int{0, 5, -1, -2, -4, 6, 7, 9, 16, 255, 256, 257, 260, 1<<32 + 1, 1<<32 + 4, -1<<32 + 2, 1 << 62, least, least + 1, least + 4, greatest - 1, greatest}

// noNums: numbers that no right state has.
var noNums = []int{-1, 12, -2, -11, -12, 13, 15, 16, 24, 255, 256, 1 << 31, 1 << 32, 1<<32 + 3, -1 << 31, -1 << 32, least, least + 1, least + 7, greatest - 1, greatest}

// distances: the edges among them.
var distances = []int{1, 2, 3, 4, 5, 273, 4096, 1<<31 - 1, 1 << 31, 1<<31 + 1, api.MaxTold - 1, api.MaxTold}

// noDistances: numbers that are no distance.
var noDistances = []int{0, api.MaxTold + 1, -1, -2, -3, -273, 1<<32 + 1, 1<<33 + 5, 1 << 62, -1 << 31, -1 << 32, -1<<32 + 1, least, least + 1, least + 5, greatest - 1, greatest}

// lengths: of matches and reps, the edges among them.
var lengths = []int{2, 3, 4, 9, 10, 17, 18, 100, 255, 256, 272, 273}

// noLengths: numbers that are no length of a match or a rep.
var noLengths = []int{1, 274, 0, -1, -2, -3, -273, 275, 511, 512, 1<<31 + 2, 1<<32 + 2, 1<<32 + 273, -1 << 32, -1<<32 + 5, least, least + 2, greatest - 1, greatest}

// noReps: numbers that are none of the last four distances'.
var noReps = []int{-1, 4, -2, -3, -4, 5, 6, 7, 8, 256, 1<<32 + 1, -1 << 32, least, least + 1, least + 3, greatest - 1, greatest}

// table: the moves, as the chapter has them.
var table = [4][12]int{
	{0, 0, 0, 0, 1, 2, 3, 4, 5, 6, 4, 5},
	{7, 7, 7, 7, 7, 7, 7, 10, 10, 10, 10, 10},
	{8, 8, 8, 8, 8, 8, 8, 11, 11, 11, 11, 11},
	{9, 9, 9, 9, 9, 9, 9, 11, 11, 11, 11, 11},
}

func lit(b byte) api.Symbol { return api.Symbol{Kind: api.SymLit, Byte: b} }

func match(n, dist int) api.Symbol { return api.Symbol{Kind: api.SymMatch, Len: n, Dist: dist} }

func rep(n, i int) api.Symbol { return api.Symbol{Kind: api.SymRep, Len: n, Dist: i} }

func short() api.Symbol { return api.Symbol{Kind: api.SymShort} }

// some: a formed symbol of that kind.
func some(kind int) api.Symbol {
	return map[int]api.Symbol{api.SymLit: lit(7), api.SymMatch: match(5, 9), api.SymRep: rep(3, 2), api.SymShort: short()}[kind]
}

// with: a state of that number, with distances that differ.
func with(num int) state.State { return state.State{Num: num, Reps: [4]int{20, 30, 40, 50}} }

// went: the state behind a symbol that is taken.
func went(t *testing.T, s state.State, y api.Symbol) state.State {
	t.Helper()
	n, errno := s.Next(y)
	if errno != api.OK {
		t.Fatalf("%+v behind %+v: error %d", y, s, errno)
	}
	return n
}

// wantNext: that is the state behind the symbol.
func wantNext(t *testing.T, s state.State, y api.Symbol, num int, reps ...int) state.State {
	t.Helper()
	n := went(t, s, y)
	if n.Num != num || !slices.Equal(n.Reps[:], reps) {
		t.Errorf("%+v behind %+v: %+v; want %d, %v", y, s, n, num, reps)
	}
	return n
}

// wantNone: the symbol is refused with that error, and no state is answered.
func wantNone(t *testing.T, s state.State, y api.Symbol, want api.Errno) {
	t.Helper()
	if n, errno := s.Next(y); errno != want || n != (state.State{}) {
		t.Errorf("%+v behind %+v: %+v, error %d; want error %d", y, s, n, errno, want)
	}
}

// told: what the words of the chapter say of a symbol behind a state.
func told(s state.State, y api.Symbol) (state.State, api.Errno) {
	dist := func(d int) bool { return d >= 1 && d <= 4294967295 }
	for _, d := range s.Reps {
		if s.Num < 0 || s.Num > 11 || !dist(d) {
			return state.State{}, api.ErrRange
		}
	}
	row := slices.Index(kinds, y.Kind)
	if row < 0 {
		return state.State{}, api.ErrConfig
	}
	reps, long := s.Reps[:], y.Len >= 2 && y.Len <= 273
	switch {
	case y.Kind == api.SymMatch && long && dist(y.Dist):
		reps = slices.Insert(reps[:3:3], 0, y.Dist)
	case y.Kind == api.SymRep && long && y.Dist >= 0 && y.Dist <= 3:
		named := reps[y.Dist]
		reps = slices.Insert(slices.Delete(slices.Clone(reps), y.Dist, y.Dist+1), 0, named)
	case y.Kind == api.SymMatch || y.Kind == api.SymRep:
		return state.State{}, api.ErrRange
	}
	return state.State{Num: table[row][s.Num], Reps: [4]int(reps)}, api.OK
}

// slotTold: the slot of a distance, by its digits written out.
func slotTold(dist int) int {
	if dist <= 4 {
		return dist - 1
	}
	digits := strconv.FormatInt(int64(dist-1), 2)
	return 2*(len(digits)-1) + int(digits[1]-'0')
}

// slotRow: of each slot its least distance and its bits, one slot's distances behind the other's.
func slotRow() (all [64]struct{ least, bits int }) {
	next := 1
	for slot := range all {
		bits := 0
		if slot > 3 {
			bits = slot/2 - 1
		}
		all[slot] = struct{ least, bits int }{next, bits}
		next += 1 << bits
	}
	return all
}

// propsOf: all that are allowed.
func propsOf() []api.Props {
	all := []api.Props{}
	for pb := range 5 {
		for lp := range 5 {
			for lc := range 5 - lp {
				all = append(all, api.Props{LC: lc, LP: lp, PB: pb})
			}
		}
	}
	return all
}

// chanceSymbol: a formed one, of any kind.
func chanceSymbol(r *rand.Rand) api.Symbol {
	y := api.Symbol{Kind: kinds[r.Intn(4)], Byte: byte(r.Intn(256))}
	switch y.Kind {
	case api.SymMatch:
		y.Len, y.Dist = 2+r.Intn(272), 1+r.Intn(api.MaxTold)
	case api.SymRep:
		y.Len, y.Dist = 2+r.Intn(272), r.Intn(4)
	}
	return y
}
