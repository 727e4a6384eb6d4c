package parse_test

import (
	"slices"
	"testing"

	"pith/api"
	"pith/parse"
	"pith/state"
)

// badStates: those that are not right: by their number, or by one of the distances, at each place.
func badStates() []state.State {
	all := []state.State{{}, {Num: 5}}
	for _, num := range []int{least, -1 << 32, -2, -1, 12, 13, 1 << 32, greatest} {
		all = append(all, with(num), with(num, 0, 0, 0, 0))
	}
	for _, d := range noDistances {
		for place := range 4 {
			s := with(3, 5, 6, 7, 8)
			s.Reps[place] = d
			all = append(all, s)
		}
	}
	return all
}

// P16.1: from and to at all edges: below 0, equal, turned round, at and beyond the end.
func TestPiecesThatAreNone(t *testing.T) {
	s := with(2, 3, 1, 2, 4)
	for n := range 7 {
		data := []byte("abaaba"[:n])
		edges := []int{least, least + 1, -1 << 32, -2, -1, n + 1, n + 2, 1 << 32, 1 << 62, greatest - 1, greatest}
		for i := range n + 1 {
			edges = append(edges, i)
		}
		for _, from := range edges {
			for _, to := range edges {
				if from >= 0 && from <= to && to <= n {
					wantAll(t, view{string(data), from, to, 9}, s)
				} else {
					wantError(t, data, from, to, 9, s, api.ErrRange, api.ErrRange)
				}
			}
		}
	}
}

// P16.1: the room behind the data is none of them.
func TestTheRoomBehindIsNoData(t *testing.T) {
	room := []byte("abcabcabc")
	for n := range len(room) {
		wantError(t, room[:n], 0, n+1, 9, state.New(), api.ErrRange, api.ErrRange)
		wantError(t, room[:n], n+1, n+1, 9, state.New(), api.ErrRange, api.ErrRange)
	}
}

// P16.1: the dictionaries 0, one above the greatest and others that are none are the finder's error; 1 and the greatest are right; for each piece, also one without bytes.
func TestDictionariesThatAreNone(t *testing.T) {
	for _, data := range []string{"", "a", "abcabcabc"} {
		for from := range len(data) + 1 {
			for _, dict := range noDicts {
				wantError(t, []byte(data), from, len(data), dict, state.New(), api.ErrConfig, api.ErrConfig)
				wantError(t, []byte(data), from, from, dict, state.New(), api.ErrConfig, api.ErrConfig)
			}
			for _, dict := range []int{1, 2, api.MaxTold - 1, api.MaxTold} {
				wantAll(t, view{data, from, len(data), dict}, state.New())
				wantAll(t, view{data, from, from, dict}, state.New())
			}
		}
	}
}

// P16.1: a state that is not right, by its number or by one of its distances, also where the piece has no bytes.
func TestStatesThatAreNotRight(t *testing.T) {
	for _, data := range []string{"", "a", "abcabcabc"} {
		for _, s := range badStates() {
			wantError(t, []byte(data), 0, len(data), 9, s, api.ErrRange, api.OK)
			wantError(t, []byte(data), len(data), len(data), 9, s, api.ErrRange, api.OK)
		}
	}
}

// P16.1: the numbers 0 and 11 and the distances 1 and MaxTold are right, at each place.
func TestStatesAtTheEdge(t *testing.T) {
	for num := range 12 {
		for place := range 4 {
			for _, d := range []int{1, 2, api.MaxTold - 1, api.MaxTold} {
				s := with(num, 4, 4, 4, 4)
				s.Reps[place] = d
				wantAll(t, view{"aabaabaab", 2, 9, api.MaxTold}, s)
				wantAll(t, view{"", 0, 0, 1}, s)
			}
		}
	}
}

// P16.1: where several errors apply: the piece's, then the finder's, then the state's.
func TestWhichErrorComesFirst(t *testing.T) {
	data := []byte("abcabc")
	for _, s := range append(badStates(), state.New()) {
		for _, piece := range [][2]int{{-1, 3}, {2, 1}, {0, 7}, {7, 7}, {-1, -1}, {least, greatest}, {greatest, least}} {
			for _, dict := range append([]int{1, 9, api.MaxTold}, noDicts...) {
				wantError(t, data, piece[0], piece[1], dict, s, api.ErrRange, api.ErrRange)
			}
		}
		for _, dict := range noDicts {
			wantError(t, data, 0, 6, dict, s, api.ErrConfig, api.ErrConfig)
			wantError(t, data, 3, 3, dict, s, api.ErrConfig, api.ErrConfig)
		}
	}
}

// P16.1, W4: no data, as nil and as an empty list: a piece without bytes, and none else.
func TestNoData(t *testing.T) {
	s := with(7, 9, 8, 7, 6)
	for _, data := range [][]byte{nil, {}, []byte("abc")[:0]} {
		wantAll(t, view{string(data), 0, 0, 1}, s)
		greedy, behind, errno := parse.Greedy(data, 0, 0, 4096, s)
		if len(greedy) != 0 || behind != s || errno != api.OK {
			t.Errorf("Greedy of nothing: %v, %+v, error %d", greedy, behind, errno)
		}
		cheap, behind, errno := parse.Cheap(data, 0, 0, 4096, s)
		if len(cheap) != 0 || behind != s || errno != api.OK {
			t.Errorf("Cheap of nothing: %v, %+v, error %d", cheap, behind, errno)
		}
		if plan, errno := parse.Plan(data, 0, 0, 4096); len(plan) != 0 || errno != api.OK {
			t.Errorf("Plan of nothing: %v, error %d", plan, errno)
		}
		for _, piece := range [][2]int{{0, 1}, {1, 1}, {-1, 0}, {1, 0}} {
			wantError(t, data, piece[0], piece[1], 4096, s, api.ErrRange, api.ErrRange)
		}
	}
}

// P16.1: a piece without bytes, at each place of the data: no symbols, and the state as it is.
func TestPiecesWithoutBytes(t *testing.T) {
	data := "aaaaaaaa"
	for at := range len(data) + 1 {
		for _, s := range []state.State{state.New(), with(11, 1, 2, 3, 4), with(5, api.MaxTold, 9, 1, 1)} {
			v := view{data, at, at, 4096}
			wantGreedy(t, v, s, s)
			wantPlan(t, v)
			wantCheap(t, v, s, s)
		}
	}
}

// P16.1: the answer to what is refused is the same again, and what is taken is taken afterwards.
func TestRefusedAgain(t *testing.T) {
	data := []byte("aaaaaaaaaa")
	for range 3 {
		wantError(t, data, 0, 11, 9, state.New(), api.ErrRange, api.ErrRange)
		wantError(t, data, 0, 10, 0, state.New(), api.ErrConfig, api.ErrConfig)
		l, _, errno := parse.Greedy(data, 0, 10, 9, state.New())
		if !slices.Equal(l, []api.Symbol{lit('a'), rep(9, 0)}) || errno != api.OK {
			t.Errorf("Greedy: %s, error %d", shown(l), errno)
		}
	}
}
