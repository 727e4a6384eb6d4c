package symbol_test

import (
	"bytes"
	"math/rand"
	"testing"

	"pith/api"
	"pith/state"
	"pith/symbol"
	"pith/window"
)

// The greatest and the least int.
const (
	greatest = 1<<63 - 1
	least    = -1 << 63
)

// noKinds: numbers that are none of the four.
var noKinds = []int{0, 5, -1, -2, -4, 6, 8, 255, 256, 257, 1<<32 + 1, 1<<32 + 4, -1<<32 + 2, least, least + 1, greatest}

// noDistances: numbers that are no distance of a match.
var noDistances = []int{0, api.MaxTold + 1, -1, -2, 1<<32 + 1, 1 << 62, -1 << 32, -1<<32 + 1, least, least + 1, greatest}

// lengths: of matches and reps, the edges among them.
var lengths = []int{2, 3, 4, 17, 100, 255, 256, 272, 273}

// noLengths: numbers that are no length of a match or a rep.
var noLengths = []int{1, 274, 0, -1, -2, 275, 512, 1<<32 + 2, -1<<32 + 5, least, least + 2, greatest}

// noReps: numbers that are none of the last four distances'.
var noReps = []int{-1, 4, -2, -4, 5, 8, 256, 1<<32 + 1, -1 << 32, least, least + 1, greatest}

// noNums: numbers that no right state has.
var noNums = []int{-1, 12, -12, 13, 256, 1 << 32, 1<<32 + 3, least, least + 7, greatest}

func lit(b byte) api.Symbol { return api.Symbol{Kind: api.SymLit, Byte: b} }

func match(n, dist int) api.Symbol { return api.Symbol{Kind: api.SymMatch, Len: n, Dist: dist} }

func rep(n, i int) api.Symbol { return api.Symbol{Kind: api.SymRep, Len: n, Dist: i} }

func short() api.Symbol { return api.Symbol{Kind: api.SymShort} }

// with: a state of that number and these distances.
func with(num, a, b, c, d int) state.State { return state.State{Num: num, Reps: [4]int{a, b, c, d}} }

// count: n bytes that differ from their neighbours, 1, 2, 3 and so on.
func count(n int) []byte {
	b := make([]byte, n)
	for i := range b {
		b[i] = byte(i%251 + 1)
	}
	return b
}

// holding: a window of that size into which these bytes have come.
func holding(t *testing.T, size int, came ...byte) *window.Window {
	t.Helper()
	w, errno := window.New(size)
	if errno != api.OK {
		t.Fatalf("a window of %d bytes: error %d", size, errno)
	}
	w.Put(came...)
	return w
}

// wantWindow: the window has that size, and these bytes have come into it.
func wantWindow(t *testing.T, w *window.Window, size int, came []byte) {
	t.Helper()
	full := min(size, len(came))
	if w.Size() != size || w.Pos() != len(came) || w.Full() != full {
		t.Fatalf("the window has the size %d, Pos %d, Full %d; want %d, %d, %d", w.Size(), w.Pos(), w.Full(), size, len(came), full)
	}
	for d := 1; d <= full; d++ {
		if b, errno := w.Last(d); b != came[len(came)-d] || errno != api.OK {
			t.Fatalf("the byte at the distance %d is %d, error %d; want %d", d, b, errno, came[len(came)-d])
		}
	}
}

// meant: what the words of the chapter say of a symbol behind a state, on a window of that size into which these bytes have come.
func meant(size int, came []byte, s state.State, y api.Symbol) ([]byte, state.State, api.Errno) {
	next, errno := s.Next(y)
	if errno != api.OK {
		return nil, state.State{}, errno
	}
	if y.Kind == api.SymLit {
		return []byte{y.Byte}, next, api.OK
	}
	dist, n := s.Reps[0], 1
	if y.Kind == api.SymMatch {
		dist, n = y.Dist, y.Len
	}
	if y.Kind == api.SymRep {
		dist, n = s.Reps[y.Dist], y.Len
	}
	if dist > size || dist > len(came) {
		return nil, state.State{}, api.ErrRange
	}
	all := bytes.Clone(came)
	for range n {
		all = append(all, all[len(all)-dist])
	}
	return all[len(came):], next, api.OK
}

// wantApplied: the symbol makes these bytes, which come into the window, and the state behind it is that one.
func wantApplied(t *testing.T, size int, came []byte, s state.State, y api.Symbol, want []byte, behind state.State) {
	t.Helper()
	w := holding(t, size, came...)
	b, next, errno := symbol.Apply(w, s, y)
	if !bytes.Equal(b, want) || next != behind || errno != api.OK {
		t.Errorf("%+v behind %+v: % X, %+v, error %d; want % X, %+v", y, s, b, next, errno, want, behind)
	}
	wantWindow(t, w, size, append(bytes.Clone(came), want...))
}

// wantRefused: the symbol is refused with that error: no bytes, no state, and the window is as it was.
func wantRefused(t *testing.T, size int, came []byte, s state.State, y api.Symbol, want api.Errno) {
	t.Helper()
	w := holding(t, size, came...)
	b, next, errno := symbol.Apply(w, s, y)
	if len(b) != 0 || next != (state.State{}) || errno != want {
		t.Errorf("%+v behind %+v: % X, %+v, error %d; want error %d", y, s, b, next, errno, want)
	}
	wantWindow(t, w, size, came)
}

// wantRow: the row makes these bytes.
func wantRow(t *testing.T, dict int, want string, l ...api.Symbol) {
	t.Helper()
	if b, n, errno := symbol.Expand(dict, l...); string(b) != want || n != len(l) || errno != api.OK {
		t.Errorf("%v with the dictionary %d: %q, %d, error %d; want %q, %d", l, dict, b, n, errno, want, len(l))
	}
}

// wantNoRow: the row is refused behind so many symbols, with that error.
func wantNoRow(t *testing.T, dict, ahead int, want api.Errno, l ...api.Symbol) {
	t.Helper()
	if b, n, errno := symbol.Expand(dict, l...); len(b) != 0 || n != ahead || errno != want {
		t.Errorf("%v with the dictionary %d: %q, %d, error %d; want none, %d, error %d", l, dict, b, n, errno, ahead, want)
	}
}

// expanded: the bytes of a row that is taken.
func expanded(t *testing.T, dict int, l []api.Symbol) []byte {
	t.Helper()
	b, n, errno := symbol.Expand(dict, l...)
	if n != len(l) || errno != api.OK {
		t.Fatalf("%v with the dictionary %d: %d, error %d", l, dict, n, errno)
	}
	return b
}

// row: symbols that are right with that dictionary, with the bytes that the words say they make.
type row struct {
	dict int
	l    []api.Symbol
	made []byte
	s    state.State
}

// take: one more symbol, if it is right; is it?
func (u *row) take(y api.Symbol) bool {
	b, s, errno := meant(u.dict, u.made, u.s, y)
	if errno != api.OK {
		return false
	}
	u.l, u.made, u.s = append(u.l, y), append(u.made, b...), s
	return true
}

// chanceSymbol: a formed one, whose distance, of a match, is at most so much, with anything where its kind does not look.
func chanceSymbol(r *rand.Rand, far int) api.Symbol {
	n := 2 + r.Intn(12)
	if r.Intn(15) == 0 {
		n = lengths[r.Intn(len(lengths))]
	}
	y := api.Symbol{Kind: 1 + r.Intn(4), Byte: byte(r.Intn(256)), Len: n, Dist: 1 + r.Intn(far)}
	if y.Kind == api.SymRep {
		y.Dist = r.Intn(4)
	}
	return y
}

// chanceRow: n symbols that are right with that dictionary; every distance is met with, the greatest that there is often.
func chanceRow(r *rand.Rand, dict, n int) *row {
	u := &row{dict: dict, s: state.New()}
	for len(u.l) < n {
		far := max(1, min(dict, len(u.made)))
		y := chanceSymbol(r, far)
		if y.Kind == api.SymMatch && r.Intn(4) == 0 {
			y.Dist = far
		}
		u.take(y)
	}
	return u
}
