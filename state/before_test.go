package state_test

import (
	"math/rand"
	"slices"
	"testing"

	"pith/api"
	"pith/state"
)

// P12.3: Literal looks at the number alone: 0 to 6.
func TestLiteral(t *testing.T) {
	for num := -20; num <= 40; num++ {
		for _, reps := range [][4]int{{}, {1, 1, 1, 1}, {-1, 0, 1 << 32, 5}, {least, greatest, least, greatest}} {
			s := state.State{Num: num, Reps: reps}
			if s.Literal() != (num >= 0 && num <= 6) {
				t.Errorf("Literal of %+v is %v", s, s.Literal())
			}
		}
	}
	for _, num := range noNums {
		if (state.State{Num: num}).Literal() {
			t.Errorf("Literal at the number %d", num)
		}
	}
	if !state.New().Literal() {
		t.Error("Literal is false at the beginning")
	}
}

// P12.7: behind each kind, from each number that there is: Literal is true just behind a literal; rows of two and of three literals.
func TestLiteralsBehindEachKind(t *testing.T) {
	for num := range 12 {
		for _, kind := range kinds {
			s := went(t, with(num), some(kind))
			if s.Literal() != (kind == api.SymLit) {
				t.Errorf("the kind %d from %d: Literal is %v", kind, num, s.Literal())
			}
			s = went(t, s, lit(1))
			s = went(t, s, lit(2))
			if s.Num > 3 || !s.Literal() {
				t.Errorf("the kind %d from %d, and two literals: %d", kind, num, s.Num)
			}
			s = went(t, s, lit(3))
			if s.Num != 0 || !s.Literal() {
				t.Errorf("the kind %d from %d, and three literals: %d", kind, num, s.Num)
			}
			if s = went(t, s, lit(4)); s.Num != 0 {
				t.Errorf("the kind %d from %d, and four literals: %d", kind, num, s.Num)
			}
		}
	}
}

// P12.7: the numbers behind a symbol and the literals that follow it: where a literal came ahead of the symbol, and where none did.
func TestNumbersBehindLiterals(t *testing.T) {
	for _, c := range []struct {
		from, kind int
		want       []int
	}{
		{0, api.SymMatch, []int{7, 4, 1, 0, 0}},
		{0, api.SymRep, []int{8, 5, 2, 0, 0}},
		{0, api.SymShort, []int{9, 6, 3, 0, 0}},
		{7, api.SymMatch, []int{10, 4, 1, 0, 0}},
		{7, api.SymRep, []int{11, 5, 2, 0, 0}},
		{7, api.SymShort, []int{11, 5, 2, 0, 0}},
		{0, api.SymLit, []int{0, 0, 0, 0, 0}},
		{9, api.SymLit, []int{6, 3, 0, 0, 0}},
	} {
		s := went(t, with(c.from), some(c.kind))
		got := []int{s.Num}
		for range 4 {
			s = went(t, s, lit(0))
			got = append(got, s.Num)
		}
		if !slices.Equal(got, c.want) {
			t.Errorf("the kind %d from %d: %v, want %v", c.kind, c.from, got, c.want)
		}
	}
}

// P12.7: from the beginning on all numbers are reached, and no others; Reps are always right; Literal tells the kind before.
func TestWhatIsReached(t *testing.T) {
	r := rand.New(rand.NewSource(1271))
	met := [12]bool{}
	s, literals := state.New(), 3
	for range 20000 {
		y := chanceSymbol(r)
		s = went(t, s, y)
		if s.Num < 0 || s.Num > 11 {
			t.Fatalf("the number %d", s.Num)
		}
		met[s.Num] = true
		literals++
		if y.Kind != api.SymLit {
			literals = 0
		}
		if s.Literal() != (literals > 0) || literals >= 2 && s.Num > 3 || literals >= 3 && s.Num != 0 {
			t.Fatalf("behind %d literals: %+v", literals, s)
		}
		for _, d := range s.Reps {
			if d < 1 || d > api.MaxTold {
				t.Fatalf("a distance %d", d)
			}
		}
	}
	if slices.Contains(met[:], false) {
		t.Errorf("reached: %v", met)
	}
}
