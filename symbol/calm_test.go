package symbol_test

import (
	"bytes"
	"math/rand"
	"slices"
	"sync"
	"testing"

	"pith/api"
	"pith/state"
	"pith/symbol"
)

// everyEdge: all numbers of the tests, each once.
func everyEdge() []int {
	all := slices.Concat(noKinds, noDistances, lengths, noLengths, noReps, noNums, []int{1, 2, 3, 4, 7, 11, api.MaxTold})
	slices.Sort(all)
	return slices.Compact(all)
}

// P13.8, P13.1: no call panics, at all numbers; each answers what the words say.
func TestEveryCallEnds(t *testing.T) {
	r := rand.New(rand.NewSource(1381))
	edges := everyEdge()
	pick := func(usual ...int) int {
		if r.Intn(5) == 0 {
			return edges[r.Intn(len(edges))]
		}
		return usual[r.Intn(len(usual))]
	}
	counts := map[api.Errno]int{}
	for range 40000 {
		size, came := 1+r.Intn(12), count(r.Intn(20))
		s := with(pick(0, 5, 11), pick(1, 2), pick(3, 4), pick(5, 6, 7), pick(8, 12))
		y := api.Symbol{Kind: pick(1, 2, 3, 4), Byte: byte(r.Intn(256)), Len: pick(2, 3, 9, 273), Dist: pick(0, 1, 2, 3, 10)}
		want, behind, wantErr := meant(size, came, s, y)
		counts[wantErr]++
		if wantErr == api.OK {
			wantApplied(t, size, came, s, y, want, behind)
		} else {
			wantRefused(t, size, came, s, y, wantErr)
		}
		if n := symbol.Size(y); n < 0 || n > 273 || wantErr == api.OK && n != len(want) {
			t.Errorf("Size of %+v is %d", y, n)
		}
		symbol.Expand(pick(1, 2, 10), y, y, lit(1), y)
	}
	if counts[api.OK] < 1000 || counts[api.ErrConfig] < 1000 || counts[api.ErrRange] < 1000 {
		t.Errorf("the answers were %v", counts)
	}
}

// spoil: writes over an answer, and over the room behind it.
func spoil(b []byte) {
	for i := range b[:cap(b)] {
		b[:cap(b)][i] ^= 0xA5
	}
}

// P13.8, W3: the symbols that are handed to Expand stay as they were, and the room around them; what the caller does to them later is not to be seen.
func TestSymbolsHandedInStay(t *testing.T) {
	for _, dict := range []int{0, 1, 10, api.MaxTold} {
		room := append(symbol.Literals([]byte("ab")), lit('c'), short(), match(3, 1), lit('d'), rep(2, 0), lit('e'), lit('f'), api.Symbol{}, lit('g'))
		kept := slices.Clone(room)
		for _, to := range []int{2, 3, 6, 7, 9, 10} {
			first, n, errno := symbol.Expand(dict, room[2:to]...)
			if !slices.Equal(room, kept) {
				t.Fatalf("Expand of %d symbols has changed them, or the room around them", to-2)
			}
			held := bytes.Clone(first)
			for i := range room {
				room[i] = api.Symbol{Kind: 99, Byte: 99, Len: 99, Dist: 99}
			}
			if !bytes.Equal(first, held) {
				t.Fatal("a change of the symbols is seen in the answer")
			}
			copy(room, kept)
			if again, m, no := symbol.Expand(dict, room[2:to]...); !bytes.Equal(again, held) || m != n || no != errno {
				t.Fatalf("asked again: %q, %d, error %d; want %q, %d, error %d", again, m, no, held, n, errno)
			}
		}
	}
}

// P13.8, W3: the bytes that are handed to Literals stay as they were, and the room around them; the literals are new memory, and keep nothing of them.
func TestBytesHandedInStay(t *testing.T) {
	room := count(90)
	for _, n := range []int{0, 1, 5, 40} {
		b := room[20 : 20+n]
		l := symbol.Literals(b)
		other := symbol.Literals(b)
		for i := range l[:cap(l)] {
			l[:cap(l)][i] = api.Symbol{Kind: 99}
		}
		l = append(l, lit(9))
		if !bytes.Equal(room, count(90)) {
			t.Fatal("the bytes have changed, or the room around them")
		}
		spoil(room)
		for i, c := range count(90)[20 : 20+n] {
			if other[i] != lit(c) {
				t.Fatalf("the literal %d is %+v behind a change of the bytes, or of another answer", i, other[i])
			}
		}
		spoil(room)
		if !slices.Equal(symbol.Literals(b), other) {
			t.Fatal("asked again, the literals are others")
		}
	}
}

// P13.8, W3: what Apply answers is new memory: written over and lengthened, it changes neither the window nor another answer.
func TestAppliedBytesAreNewMemory(t *testing.T) {
	r := rand.New(rand.NewSource(1382))
	for _, size := range []int{1, 3, 20, 273, 1000} {
		w, u := holding(t, size), &row{dict: size, s: state.New()}
		answers, held := [][]byte{}, [][]byte{}
		for k := range 200 {
			y := chanceSymbol(r, max(1, min(size, len(u.made))))
			b, _, errno := symbol.Apply(w, u.s, y)
			if u.take(y) != (errno == api.OK) {
				t.Fatalf("%+v: error %d", y, errno)
			}
			if k%2 == 0 {
				spoil(append(b, 1, 2, 3))
				spoil(b)
			} else {
				answers, held = append(answers, b), append(held, bytes.Clone(b))
			}
			if k%20 == 0 {
				wantWindow(t, w, size, u.made)
			}
		}
		wantWindow(t, w, size, u.made)
		for i, b := range answers {
			if !bytes.Equal(b, held[i]) {
				t.Fatalf("the answer %d has changed behind its call", i)
			}
		}
	}
}

// P13.8, W3: what Expand answers is new memory, spare room too.
func TestExpandedBytesAreNewMemory(t *testing.T) {
	r := rand.New(rand.NewSource(1383))
	for _, l := range [][]api.Symbol{{lit('a')}, symbol.Literals([]byte("abc")), chanceRow(r, 50, 30).l, chanceRow(r, 50, 80).l} {
		first, second := expanded(t, 50, l), expanded(t, 50, l)
		held := bytes.Clone(first)
		spoil(append(second, 7, 7, 7))
		spoil(second)
		if third := expanded(t, 50, l); !bytes.Equal(first, held) || !bytes.Equal(third, held) {
			t.Fatal("a change of one answer is seen in another")
		}
	}
}

// P13.8, W2: windows know nothing of one another, and the state that is handed in is the caller's.
func TestWindowsAreApart(t *testing.T) {
	one, other := holding(t, 9, count(6)...), holding(t, 9, count(6)...)
	fork, s := one.Fork(), with(2, 3, 2, 1, 4)
	symbol.Apply(one, s, rep(5, 3))
	symbol.Apply(fork, s, match(2, 6))
	if s != with(2, 3, 2, 1, 4) {
		t.Errorf("the state has become %+v", s)
	}
	wantWindow(t, other, 9, count(6))
	wantWindow(t, one, 9, append(count(6), 3, 4, 5, 6, 3))
	wantWindow(t, fork, 9, append(count(6), 1, 2))
}

// W2: how goroutines run is not to be seen, also where all expand one list.
func TestManyAtOnce(t *testing.T) {
	lead := chanceRow(rand.New(rand.NewSource(1384)), 100, 200)
	var group sync.WaitGroup
	for k := range 8 {
		group.Go(func() {
			r := rand.New(rand.NewSource(int64(1385 + k)))
			for range 20 {
				u := chanceRow(r, 1+r.Intn(100), 50)
				own, n, errno := symbol.Expand(u.dict, u.l...)
				all, _, _ := symbol.Expand(100, lead.l...)
				if !bytes.Equal(own, u.made) || n != 50 || errno != api.OK || !bytes.Equal(all, lead.made) {
					t.Errorf("the goroutine %d: %d symbols, error %d", k, n, errno)
					return
				}
			}
		})
	}
	group.Wait()
}

// P13.8: little memory is taken: none for what is refused and for a size; a symbol's answer, and no more than its window's.
func TestLittleMemoryIsTaken(t *testing.T) {
	w, s, total := holding(t, 300, count(400)...), with(0, 5, 2, 7, 3), 0
	apply := func(y api.Symbol) func() {
		return func() { b, _, errno := symbol.Apply(w, s, y); total += len(b) + int(errno) }
	}
	b, l := count(500), symbol.Literals(count(3))
	for _, c := range []struct {
		name string
		most float64
		call func()
	}{
		{"a match", 1, apply(match(273, 9))},
		{"a rep", 1, apply(rep(20, 3))},
		{"a short rep", 1, apply(short())},
		{"a literal", 2, apply(lit(200))},
		{"a match that is refused", 0, apply(match(2, 301))},
		{"a kind that is none", 0, apply(api.Symbol{})},
		{"Size", 0, func() { total += symbol.Size(match(5, 9)) + symbol.Size(api.Symbol{}) }},
		{"Literals", 1, func() { total += len(symbol.Literals(b)) }},
		{"Expand of three with the greatest dictionary", 12, func() { b, _, _ := symbol.Expand(api.MaxTold, l...); total += len(b) }},
	} {
		if n := testing.AllocsPerRun(50, c.call); n > c.most {
			t.Errorf("%s takes memory %v times", c.name, n)
		}
	}
}

// P13.8: many symbols do not make it slow: none goes over what came before.
func TestManySymbols(t *testing.T) {
	l := append(symbol.Literals([]byte("ab")), match(2, 2))
	for range 200000 {
		l = append(l, short(), lit('x'), rep(3, 0))
	}
	b := expanded(t, 4096, l)
	if len(b) != 4+5*200000 {
		t.Errorf("%d bytes", len(b))
	}
}
