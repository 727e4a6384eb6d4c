package symbol_test

import (
	"bytes"
	"math/rand"
	"slices"
	"testing"

	"pith/api"
	"pith/state"
	"pith/symbol"
)

// P13.1: a literal of each byte, on a window into which none has come, one that is not full, and full ones.
func TestLiteral(t *testing.T) {
	for b := range 256 {
		for _, c := range []struct{ size, came int }{{1, 0}, {1, 1}, {5, 4}, {5, 5}, {5, 12}, {api.MaxTold, 3}} {
			wantApplied(t, c.size, count(c.came), state.New(), lit(byte(b)), []byte{byte(b)}, state.New())
		}
	}
}

// P13.1: a literal asks for no distance: those of the state may lie outside of the window.
func TestLiteralWithFarDistances(t *testing.T) {
	far := with(8, 900, 4000, api.MaxTold, 7)
	wantApplied(t, 4, nil, far, lit(9), []byte{9}, with(5, 900, 4000, api.MaxTold, 7))
	wantApplied(t, 4, count(3), far, lit(9), []byte{9}, with(5, 900, 4000, api.MaxTold, 7))
}

// copies: each kind that copies, with a state by which it does so from that distance; the other three distances, which differ, lie outside of every window here.
func copies(dist int) []struct {
	s state.State
	y api.Symbol
	n int
} {
	type one = struct {
		s state.State
		y api.Symbol
		n int
	}
	all := []one{{with(0, 7001, 7002, 7003, 7004), match(5, dist), 5}, {with(0, dist, 7002, 7003, 7004), short(), 1}}
	for i := range 4 {
		s := with(0, 7001, 7002, 7003, 7004)
		s.Reps[i] = dist
		all = append(all, one{s, rep(5, i), 5})
	}
	return all
}

// P13.1: a match, each rep and a short rep, on a window that has their distance, one that has it just as its oldest byte, and one that lacks it by one; whether as many bytes came or more.
func TestDistancesAtTheEdge(t *testing.T) {
	for _, d := range []int{1, 2, 3, 4, 5, 6, 40} {
		for _, c := range copies(d) {
			for _, room := range []struct{ size, came int }{
				{d, d}, {d, d + 1}, {d, 3*d + 1}, {d + 1, d}, {d + 1, d + 1}, {d + 1, 50}, {1000, d}, {1000, d + 1}, {1000, 500}, {api.MaxTold, d},
			} {
				came := count(room.came)
				want, behind, _ := meant(room.size, came, c.s, c.y)
				if len(want) != c.n {
					t.Fatalf("%d bytes are meant by %+v, want %d", len(want), c.y, c.n)
				}
				wantApplied(t, room.size, came, c.s, c.y, want, behind)
			}
			wantRefused(t, 1000, count(d-1), c.s, c.y, api.ErrRange)
			wantRefused(t, api.MaxTold, count(d-1), c.s, c.y, api.ErrRange)
			wantRefused(t, d, count(d-1), c.s, c.y, api.ErrRange)
			if d > 1 {
				wantRefused(t, d-1, count(d-1), c.s, c.y, api.ErrRange)
				wantRefused(t, d-1, count(d), c.s, c.y, api.ErrRange)
				wantRefused(t, d-1, count(5*d), c.s, c.y, api.ErrRange)
			}
		}
	}
}

// P13.1: each rep copies from the distance that it names, of four that differ; a short rep from the first.
func TestEachRep(t *testing.T) {
	s := with(3, 5, 2, 7, 3)
	came := []byte("abcdefgh")
	wantApplied(t, 20, came, s, rep(2, 0), []byte("de"), with(8, 5, 2, 7, 3))
	wantApplied(t, 20, came, s, rep(2, 1), []byte("gh"), with(8, 2, 5, 7, 3))
	wantApplied(t, 20, came, s, rep(2, 2), []byte("bc"), with(8, 7, 5, 2, 3))
	wantApplied(t, 20, came, s, rep(2, 3), []byte("fg"), with(8, 3, 5, 2, 7))
	wantApplied(t, 20, came, s, short(), []byte("d"), with(9, 5, 2, 7, 3))
	wantApplied(t, 20, came, s, match(2, 6), []byte("cd"), with(7, 6, 5, 2, 7))
	wantApplied(t, 20, came, s, lit('x'), []byte("x"), with(0, 5, 2, 7, 3))
}

// P13.1: the number that is answered is that of the moves, from each number before, behind each kind.
func TestStateBehindEachKind(t *testing.T) {
	for num := range 12 {
		s := with(num, 4, 3, 2, 1)
		for _, y := range []api.Symbol{lit(7), match(3, 5), rep(3, 2), short()} {
			want, behind, errno := meant(9, count(6), s, y)
			if errno != api.OK {
				t.Fatalf("%+v behind %+v: error %d", y, s, errno)
			}
			wantApplied(t, 9, count(6), s, y, want, behind)
		}
	}
}

// P13.1: a match and a rep that are longer than their distance run into themselves.
func TestLongerThanTheDistance(t *testing.T) {
	wantApplied(t, 10, []byte("xab"), state.New(), match(7, 2), []byte("abababa"), with(7, 2, 1, 1, 1))
	wantApplied(t, 10, []byte("xab"), with(0, 1, 2, 1, 1), rep(7, 1), []byte("abababa"), with(8, 2, 1, 1, 1))
	wantApplied(t, 10, []byte("a"), state.New(), rep(273, 0), bytes.Repeat([]byte("a"), 273), with(8, 1, 1, 1, 1))
	wantApplied(t, 1, []byte("a"), state.New(), match(273, 1), bytes.Repeat([]byte("a"), 273), with(7, 1, 1, 1, 1))
	for _, size := range []int{1, 2, 3, 7, 272, 273, 274, 1000} {
		for _, d := range []int{1, 2, 3, 7, 100, 271, 272, 273, 274} {
			for _, n := range lengths {
				if d > size {
					continue
				}
				came := count(size + 3)
				for _, c := range copies(d) {
					if c.y.Kind == api.SymShort {
						continue
					}
					c.y.Len = n
					want, behind, _ := meant(size, came, c.s, c.y)
					wantApplied(t, size, came, c.s, c.y, want, behind)
				}
			}
		}
	}
}

// P13.1: what a kind does not use is not looked at: a literal's and a short rep's lengths and distances, the Byte of all but a literal.
func TestWhatAKindDoesNotUse(t *testing.T) {
	numbers := slices.Concat(lengths, noLengths, noDistances, noReps)
	for _, n := range numbers {
		for _, d := range numbers {
			wantApplied(t, 9, count(6), with(0, 2, 8, 8, 8), api.Symbol{Kind: api.SymLit, Byte: 77, Len: n, Dist: d}, []byte{77}, with(0, 2, 8, 8, 8))
			wantApplied(t, 9, count(6), with(0, 2, 8, 8, 8), api.Symbol{Kind: api.SymShort, Byte: 77, Len: n, Dist: d}, []byte{5}, with(9, 2, 8, 8, 8))
		}
	}
	for b := range 256 {
		wantApplied(t, 9, count(6), with(0, 2, 3, 8, 8), api.Symbol{Kind: api.SymMatch, Byte: byte(b), Len: 2, Dist: 4}, []byte{3, 4}, with(7, 4, 2, 3, 8))
		wantApplied(t, 9, count(6), with(0, 2, 3, 8, 8), api.Symbol{Kind: api.SymRep, Byte: byte(b), Len: 2, Dist: 1}, []byte{4, 5}, with(8, 3, 2, 8, 8))
	}
}

// P13.1: symbols one behind the other on one window: each goes on from what the one before left.
func TestOneBehindTheOther(t *testing.T) {
	r := rand.New(rand.NewSource(1311))
	for _, size := range []int{1, 2, 3, 10, 100, 273, 1000, api.MaxTold} {
		w := holding(t, size)
		u := &row{dict: size, s: state.New()}
		for range 300 {
			y := chanceSymbol(r, max(1, min(size, len(u.made)))+r.Intn(2))
			want, behind, wantErr := meant(size, u.made, u.s, y)
			b, next, errno := symbol.Apply(w, u.s, y)
			if !bytes.Equal(b, want) || next != behind || errno != wantErr {
				t.Fatalf("%+v behind %+v: % X, %+v, error %d; want % X, %+v, error %d", y, u.s, b, next, errno, want, behind, wantErr)
			}
			u.take(y)
			if w.Pos() != len(u.made) {
				t.Fatalf("Pos is %d, want %d", w.Pos(), len(u.made))
			}
		}
		wantWindow(t, w, size, u.made)
	}
}
