package symbol_test

import (
	"bytes"
	"math/rand"
	"slices"
	"testing"

	"pith/api"
	"pith/state"
	"pith/symbol"
)

// renamed: the row with every rep made a match from its distance, and every short rep a literal of its byte; the distances are those of the row itself.
func renamed(t *testing.T, dict int, l []api.Symbol) []api.Symbol {
	t.Helper()
	w, s, out := holding(t, dict), state.New(), []api.Symbol{}
	for _, y := range l {
		b, next, errno := symbol.Apply(w, s, y)
		if errno != api.OK {
			t.Fatalf("%+v: error %d", y, errno)
		}
		switch y.Kind {
		case api.SymRep:
			y = match(y.Len, s.Reps[y.Dist])
		case api.SymShort:
			y = lit(b[0])
		}
		out, s = append(out, y), next
	}
	return out
}

// P13.5: a row with every rep made a match and every short rep a literal has the same bytes.
func TestTheSameByAnotherName(t *testing.T) {
	r := rand.New(rand.NewSource(1351))
	for _, dict := range []int{1, 2, 5, 30, 300, 4096, api.MaxTold} {
		for range 60 {
			u := chanceRow(r, dict, r.Intn(50))
			other := renamed(t, dict, u.l)
			if b := expanded(t, dict, other); !bytes.Equal(b, u.made) {
				t.Fatalf("%v with the dictionary %d: % X, want % X", other, dict, b, u.made)
			}
			for _, y := range other {
				if y.Kind == api.SymRep || y.Kind == api.SymShort {
					t.Fatalf("%+v is left", y)
				}
			}
		}
	}
}

// P13.5: one symbol: a rep and the match of its length from its distance make the same bytes and leave the same first distance; a short rep and the literal of its byte make the same byte.
func TestOneByAnotherName(t *testing.T) {
	for num := range 12 {
		s := with(num, 9, 2, 30, 5)
		for i := range 4 {
			for _, n := range lengths {
				one, other := holding(t, 40, count(60)...), holding(t, 40, count(60)...)
				a, after, errno := symbol.Apply(one, s, rep(n, i))
				b, behind, no := symbol.Apply(other, s, match(n, s.Reps[i]))
				if !bytes.Equal(a, b) || len(a) != n || after.Reps[0] != s.Reps[i] || behind.Reps[0] != s.Reps[i] || errno != api.OK || no != api.OK {
					t.Errorf("rep %d of %d bytes: % X, %+v; the match: % X, %+v", i, n, a, after, b, behind)
				}
			}
		}
		one, other := holding(t, 40, count(60)...), holding(t, 40, count(60)...)
		a, after, _ := symbol.Apply(one, s, short())
		b, behind, _ := symbol.Apply(other, s, lit(count(60)[51]))
		if !bytes.Equal(a, b) || len(a) != 1 || after.Reps != s.Reps || behind.Reps != s.Reps {
			t.Errorf("a short rep: % X, %+v; the literal: % X, %+v", a, after, b, behind)
		}
	}
}

// P13.5: the distances of later reps are those of the first row: a row in which one rep alone is renamed need not mean the same.
func TestOneRenamedAlone(t *testing.T) {
	l := append(symbol.Literals([]byte("abcdef")), match(2, 3), match(2, 5), rep(2, 0), rep(2, 1))
	wantRow(t, 20, "abcdefdedefdef", l...)
	l[8] = match(2, 5)
	wantRow(t, 20, "abcdefdedefded", l...)
	l[9] = match(2, 3)
	wantRow(t, 20, "abcdefdedefdef", l...)
}

// P13.6: a row that one dictionary takes every greater one takes, with the same bytes.
func TestGreaterDictionaries(t *testing.T) {
	r := rand.New(rand.NewSource(1361))
	for _, dict := range []int{1, 2, 3, 7, 40, 273, 1000} {
		for range 20 {
			u := chanceRow(r, dict, r.Intn(50))
			for _, more := range []int{0, 1, 2, dict, 999, 1 << 20, api.MaxTold - dict} {
				if b := expanded(t, dict+more, u.l); !bytes.Equal(b, u.made) {
					t.Fatalf("%v with the dictionaries %d and %d: % X, want % X", u.l, dict, dict+more, b, u.made)
				}
			}
		}
	}
}

// P13.6: and a smaller one takes it just as long as every distance is in it.
func TestTheLeastDictionary(t *testing.T) {
	for d := 2; d < 40; d++ {
		l := append(symbol.Literals(count(50)), match(2, d), lit(1), short())
		b := expanded(t, d, l)
		if big := expanded(t, 4096, l); !bytes.Equal(b, big) {
			t.Errorf("the distance %d: % X, and % X", d, b, big)
		}
		wantNoRow(t, d-1, 50, api.ErrRange, l...)
	}
}

// P13.7: every beginning of a row has the beginning of its bytes, as many as the Sizes of its symbols, all together.
func TestBeginnings(t *testing.T) {
	r := rand.New(rand.NewSource(1371))
	for _, dict := range []int{1, 4, 100, 4096} {
		for range 20 {
			u := chanceRow(r, dict, 40)
			total := 0
			for i := range len(u.l) + 1 {
				b := expanded(t, dict, u.l[:i])
				if len(b) != total || !bytes.HasPrefix(u.made, b) {
					t.Fatalf("%d symbols: % X, want %d bytes that % X begins with", i, b, total, u.made)
				}
				if i < len(u.l) {
					total += symbol.Size(u.l[i])
				}
			}
			if total != len(u.made) {
				t.Fatalf("%d bytes, the sizes are %d", len(u.made), total)
			}
		}
	}
}

// P13.7: of a row that is refused every beginning ahead of the fault is taken, every longer one refused alike.
func TestBeginningsOfARefusedRow(t *testing.T) {
	r := rand.New(rand.NewSource(1372))
	for range 50 {
		u := chanceRow(r, 20, 15)
		l := append(slices.Clone(u.l), match(2, 21), lit(1), api.Symbol{}, short())
		for i := range len(l) + 1 {
			if i <= 15 {
				expanded(t, 20, l[:i])
			} else {
				wantNoRow(t, 20, 15, api.ErrRange, l[:i]...)
			}
		}
	}
}
