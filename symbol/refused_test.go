package symbol_test

import (
	"bytes"
	"testing"

	"pith/api"
	"pith/state"
	"pith/symbol"
)

// wrong: symbols that are not formed though their kind is one of the four.
func wrong() []api.Symbol {
	all := []api.Symbol{}
	for _, n := range noLengths {
		all = append(all, match(n, 1), match(n, 3), match(n, 0), rep(n, 0), rep(n, 3), rep(n, 4))
	}
	for _, d := range noDistances {
		all = append(all, match(2, d), match(273, d))
	}
	for _, i := range noReps {
		all = append(all, rep(2, i), rep(273, i))
	}
	return all
}

// badStates: those that are not right: by their number, or by one of the distances, at each place.
func badStates() []state.State {
	all := []state.State{{}}
	for _, num := range noNums {
		all = append(all, with(num, 1, 2, 3, 4))
	}
	for _, d := range noDistances {
		for place := range 4 {
			s := with(5, 1, 2, 3, 4)
			s.Reps[place] = d
			all = append(all, s)
		}
	}
	return all
}

// windows: sizes, and how many bytes have come: none, fewer than the size, as many, more.
var windows = []struct{ size, came int }{{1, 0}, {1, 1}, {4, 3}, {4, 4}, {4, 30}, {api.MaxTold, 0}, {api.MaxTold, 20}}

// P13.1: a state that is not right is refused ahead of all else: ErrRange, also where the kind is none of the four, or the window would do.
func TestStatesThatAreNotRight(t *testing.T) {
	symbols := append(wrong()[:8], lit(1), match(2, 1), match(2, 99), rep(2, 0), rep(2, 3), short(), api.Symbol{}, api.Symbol{Kind: 5})
	for _, c := range windows {
		for _, s := range badStates() {
			for _, y := range symbols {
				wantRefused(t, c.size, count(c.came), s, y, api.ErrRange)
			}
		}
	}
}

// P13.1: a kind that is none of the four is ErrConfig, behind a right state, also where no distance of it is in the window.
func TestKindsThatAreNone(t *testing.T) {
	for _, c := range windows {
		for _, kind := range noKinds {
			for _, s := range []state.State{state.New(), with(11, api.MaxTold, 99, 99, 99)} {
				wantRefused(t, c.size, count(c.came), s, api.Symbol{Kind: kind}, api.ErrConfig)
				wantRefused(t, c.size, count(c.came), s, api.Symbol{Kind: kind, Byte: 9, Len: 2, Dist: 1}, api.ErrConfig)
				wantRefused(t, c.size, count(c.came), s, api.Symbol{Kind: kind, Len: 2, Dist: 99}, api.ErrConfig)
				wantRefused(t, c.size, count(c.came), s, api.Symbol{Kind: kind, Len: -1, Dist: least}, api.ErrConfig)
				wantRefused(t, c.size, count(c.came), s, api.Symbol{Kind: kind, Len: greatest, Dist: greatest}, api.ErrConfig)
			}
		}
	}
}

// P13.1: a symbol that is not formed is ErrRange, on windows that have its distance and on those that lack it.
func TestSymbolsThatAreNotFormed(t *testing.T) {
	for _, c := range windows {
		for _, y := range wrong() {
			wantRefused(t, c.size, count(c.came), state.New(), y, api.ErrRange)
			wantRefused(t, c.size, count(c.came), with(9, 99, 1, 99, 1), y, api.ErrRange)
		}
	}
}

// P13.1: a copy of no bytes is none, though the window would make it: of a match and a rep of 0 bytes, and of 1, nothing comes.
func TestTooShortOnes(t *testing.T) {
	for _, n := range []int{0, 1} {
		for _, y := range []api.Symbol{match(n, 1), rep(n, 0), rep(n, 3)} {
			wantRefused(t, 10, count(8), state.New(), y, api.ErrRange)
		}
	}
}

// P13.1: on a window into which no byte has come a literal alone can be applied.
func TestNothingHasCome(t *testing.T) {
	for _, size := range []int{1, 10, api.MaxTold} {
		for _, y := range []api.Symbol{match(2, 1), match(273, api.MaxTold), rep(2, 0), rep(2, 1), rep(2, 2), rep(2, 3), short()} {
			wantRefused(t, size, nil, state.New(), y, api.ErrRange)
		}
		wantApplied(t, size, nil, state.New(), lit(3), []byte{3}, state.New())
	}
}

// P13.1: formed distances far beyond every window, and just beyond.
func TestFarDistances(t *testing.T) {
	for _, d := range []int{21, 22, 4096, 1<<31 - 1, 1 << 31, api.MaxTold - 1, api.MaxTold} {
		for _, c := range copies(d) {
			wantRefused(t, 20, count(20), c.s, c.y, api.ErrRange)
			wantRefused(t, 20, count(900), c.s, c.y, api.ErrRange)
			wantRefused(t, api.MaxTold, count(20), c.s, c.y, api.ErrRange)
		}
	}
}

// P13.1: what was refused is not remembered: on the same window the next symbol is as if it had not been asked.
func TestGoesOnBehindWhatWasRefused(t *testing.T) {
	w, came, s := holding(t, 6, count(4)...), count(4), state.New()
	for k, y := range []api.Symbol{lit(9), match(3, 2), short(), rep(4, 1), match(2, 6), lit(8)} {
		for _, no := range append(wrong(), api.Symbol{}, match(2, 7), api.Symbol{Kind: 5, Len: 2, Dist: 1}) {
			if b, next, errno := symbol.Apply(w, s, no); len(b) != 0 || next != (state.State{}) || errno == api.OK {
				t.Fatalf("%+v: % X, %+v, error %d", no, b, next, errno)
			}
		}
		if _, _, errno := symbol.Apply(w, with(0, 7, 7, 7, 7), short()); errno != api.ErrRange {
			t.Fatalf("a short rep from 7: error %d", errno)
		}
		wantWindow(t, w, 6, came)
		want, behind, _ := meant(6, came, s, y)
		b, next, errno := symbol.Apply(w, s, y)
		if !bytes.Equal(b, want) || next != behind || errno != api.OK {
			t.Fatalf("the symbol %d: % X, %+v, error %d; want % X, %+v", k, b, next, errno, want, behind)
		}
		came, s = append(came, want...), next
	}
	wantWindow(t, w, 6, came)
}
