package state_test

import (
	"math/rand"
	"slices"
	"testing"

	"pith/api"
	"pith/state"
)

// P12.1: at the beginning, each time.
func TestNew(t *testing.T) {
	want := state.State{Num: 0, Reps: [4]int{1, 1, 1, 1}}
	for range 3 {
		s := state.New()
		if s != want {
			t.Fatalf("New is %+v", s)
		}
		s.Num, s.Reps = 5, [4]int{9, 8, 7, 6}
	}
}

// P12.2: the chapter's examples, one behind the other.
func TestExamples(t *testing.T) {
	wantNext(t, state.New(), lit(0), 0, 1, 1, 1, 1)
	s := wantNext(t, state.New(), match(5, 9), 7, 9, 1, 1, 1)
	s = wantNext(t, s, match(5, 4), 10, 4, 9, 1, 1)
	s = wantNext(t, s, match(5, 2), 10, 2, 4, 9, 1)
	s = wantNext(t, s, rep(3, 2), 11, 9, 2, 4, 1)
	s = wantNext(t, s, rep(3, 1), 11, 2, 9, 4, 1)
	s = wantNext(t, s, rep(3, 0), 11, 2, 9, 4, 1)
	for _, num := range []int{5, 2, 0, 0} {
		s = wantNext(t, s, lit('x'), num, 2, 9, 4, 1)
	}
	s = wantNext(t, state.New(), short(), 9, 1, 1, 1, 1)
	wantNext(t, s, short(), 11, 1, 1, 1, 1)
	wantNone(t, state.New(), api.Symbol{}, api.ErrConfig)
	wantNone(t, state.New(), match(1, 1), api.ErrRange)
	wantNone(t, state.New(), match(274, 1), api.ErrRange)
	wantNone(t, state.New(), match(2, 0), api.ErrRange)
	wantNone(t, state.New(), rep(2, 4), api.ErrRange)
	wantNone(t, state.State{Num: 12, Reps: [4]int{1, 1, 1, 1}}, api.Symbol{}, api.ErrRange)
	wantNone(t, state.State{}, lit(0), api.ErrRange)
}

// P12.2: every move of the table, with the distances behind each kind.
func TestEveryMove(t *testing.T) {
	for num := range 12 {
		wantNext(t, with(num), lit(7), table[0][num], 20, 30, 40, 50)
		wantNext(t, with(num), match(5, 9), table[1][num], 9, 20, 30, 40)
		wantNext(t, with(num), rep(3, 2), table[2][num], 40, 20, 30, 50)
		wantNext(t, with(num), short(), table[3][num], 20, 30, 40, 50)
	}
}

// P12.2: a rep's number, of four distances that differ.
func TestRepsComeToTheFront(t *testing.T) {
	for num := range 12 {
		want := table[2][num]
		wantNext(t, with(num), rep(2, 0), want, 20, 30, 40, 50)
		wantNext(t, with(num), rep(2, 1), want, 30, 20, 40, 50)
		wantNext(t, with(num), rep(2, 2), want, 40, 20, 30, 50)
		wantNext(t, with(num), rep(2, 3), want, 50, 20, 30, 40)
	}
}

// P12.2: a match from a distance that is among the last four comes to the front all the same, and stays where it was too.
func TestMatchFromALastDistance(t *testing.T) {
	wantNext(t, with(0), match(2, 20), 7, 20, 20, 30, 40)
	wantNext(t, with(0), match(2, 40), 7, 40, 20, 30, 40)
	wantNext(t, with(0), match(2, 50), 7, 50, 20, 30, 40)
}

// P12.2: lengths and distances of matches and reps, the least and the greatest among them: the length is not to be seen.
func TestFormedOnes(t *testing.T) {
	for _, n := range lengths {
		for _, d := range distances {
			wantNext(t, with(3), match(n, d), 7, d, 20, 30, 40)
		}
		for i := range 4 {
			want := slices.Insert(slices.Delete([]int{20, 30, 40, 50}, i, i+1), 0, 20+10*i)
			wantNext(t, with(10), rep(n, i), 11, want...)
		}
	}
}

// P12.2: each place takes each distance, the edges too, and it is carried on as it is.
func TestDistancesAreKept(t *testing.T) {
	for _, d := range distances {
		for place := range 4 {
			s := with(4)
			s.Reps[place] = d
			wantNext(t, s, lit(1), 1, s.Reps[:]...)
			wantNext(t, s, short(), 9, s.Reps[:]...)
			wantNext(t, s, match(2, 77), 7, 77, s.Reps[0], s.Reps[1], s.Reps[2])
			n := went(t, s, rep(2, place))
			if n.Reps[0] != d {
				t.Errorf("rep %d behind %+v: %+v", place, s, n)
			}
		}
	}
}

// P12.2: what a kind does not use is not looked at: a literal's and a short rep's lengths and distances, the Byte of all.
func TestWhatAKindDoesNotUse(t *testing.T) {
	numbers := slices.Concat(lengths, noLengths, distances, noDistances, noReps)
	for _, n := range numbers {
		for _, d := range numbers {
			wantNext(t, with(8), api.Symbol{Kind: api.SymLit, Byte: byte(n), Len: n, Dist: d}, 5, 20, 30, 40, 50)
			wantNext(t, with(8), api.Symbol{Kind: api.SymShort, Byte: byte(d), Len: n, Dist: d}, 11, 20, 30, 40, 50)
		}
	}
	for b := range 256 {
		for _, kind := range kinds {
			y := some(kind)
			plain := went(t, with(2), y)
			y.Byte = byte(b)
			if n := went(t, with(2), y); n != plain {
				t.Errorf("%+v: %+v, and %+v without the byte", y, n, plain)
			}
		}
	}
}

// P12.2: rows of symbols go as the words say, at each of them.
func TestRows(t *testing.T) {
	r := rand.New(rand.NewSource(1221))
	for range 300 {
		s := state.New()
		for range 100 {
			y := chanceSymbol(r)
			want, _ := told(s, y)
			s = wantNext(t, s, y, want.Num, want.Reps[:]...)
		}
	}
}

// P12.2, W2: Next leaves the state that it is asked of as it was; asked again it answers the same.
func TestTheStateBeforeStays(t *testing.T) {
	for num := range 12 {
		for _, kind := range kinds {
			s := with(num)
			first := went(t, s, some(kind))
			if second := went(t, s, some(kind)); s != with(num) || first != second {
				t.Errorf("the kind %d: %+v; %+v, then %+v", kind, s, first, second)
			}
			first.Reps[1], first.Num = 1234, 11
			if s != with(num) {
				t.Errorf("the kind %d: a change of the answer is seen in %+v", kind, s)
			}
		}
	}
}
