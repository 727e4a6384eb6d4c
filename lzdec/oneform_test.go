package lzdec_test

import (
	"bytes"
	"math/rand"
	"slices"
	"testing"

	"pith/api"
	"pith/lzenc"
)

// small: a decoder and an encoder behind two raw bytes, with which one has all rows of one and of two bytes at hand.
func small(t *testing.T) *couple {
	t.Helper()
	a := newCouple(t, api.Props{}, 4)
	a.raw(5, 6)
	return a
}

// oneByte: all symbols that make one byte there.
func oneByte() []api.Symbol {
	l := []api.Symbol{short()}
	for b := range 256 {
		l = append(l, lit(byte(b)))
	}
	return l
}

// packedOf: each row, by the bytes that an encoder that goes on from here cuts of it.
func packedOf(t *testing.T, e *lzenc.Encoder, rows [][]api.Symbol) map[string][]api.Symbol {
	t.Helper()
	all := map[string][]api.Symbol{}
	for _, l := range rows {
		f := e.Fork()
		for _, y := range l {
			if errno := f.Put(y); errno != api.OK {
				t.Fatalf("%+v: error %d", y, errno)
			}
		}
		b := string(f.Cut())
		if all[b] != nil {
			t.Fatalf("%+v and %+v are both % X", all[b], l, b)
		}
		all[b] = l
	}
	return all
}

// wantJust: the bytes are taken just if a row has them, and as that row; the decoder is as it was afterwards.
func wantJust(t *testing.T, a *couple, all map[string][]api.Symbol, b []byte, n int) {
	t.Helper()
	l, data, errno := a.d.Take(b, n)
	want := all[string(b)]
	switch {
	case want == nil && errno != api.ErrFormat:
		t.Fatalf("Take(% X, %d): %+v, error %d; but no encoder cuts that", b, n, l, errno)
	case want != nil && (errno != api.OK || !slices.Equal(l, want) || len(data) != n):
		t.Fatalf("Take(% X, %d): %+v, error %d; want %+v", b, n, l, errno, want)
	}
	a.d.Clear()
	a.d.Raw(5, 6)
}

// near: the bytes, and all that differ from them in a bit; all beginnings; and longer ones.
func near(b []byte) [][]byte {
	all := [][]byte{b, append(bytes.Clone(b), 0), append(bytes.Clone(b), 1), append(bytes.Clone(b), 0, 0)}
	for i := range b {
		all = append(all, b[:i])
	}
	for i := range 8 * len(b) {
		c := bytes.Clone(b)
		c[i/8] ^= 1 << (i % 8)
		all = append(all, c)
	}
	return append(all, plus(b, 1), plus(b, 1<<24), plus(b, widest))
}

// P15.2, P15.6: of one byte: what is taken is just what an encoder cuts of a symbol of one byte, and as that symbol; nothing near it.
func TestAllOfOneByte(t *testing.T) {
	var rows [][]api.Symbol
	for _, y := range oneByte() {
		rows = append(rows, []api.Symbol{y})
	}
	a := small(t)
	all := packedOf(t, a.e, rows)
	for b := range all {
		for _, c := range near([]byte(b)) {
			wantJust(t, a, all, c, 1)
		}
	}
}

// P15.2, P15.6: likewise of two bytes: two symbols, or a match or a rep of two.
func TestAllOfTwoBytes(t *testing.T) {
	rows := [][]api.Symbol{{match(2, 1)}, {match(2, 2)}, {rep(2, 0)}, {rep(2, 1)}, {rep(2, 2)}, {rep(2, 3)}}
	for _, x := range oneByte() {
		for _, y := range oneByte() {
			rows = append(rows, []api.Symbol{x, y})
		}
	}
	a := small(t)
	all := packedOf(t, a.e, rows)
	r := rand.New(rand.NewSource(1581))
	for range 5000 {
		b := make([]byte, 6+r.Intn(3))
		r.Read(b[1:])
		wantJust(t, a, all, b, 2)
	}
	for k, l := range rows {
		if k > 40 && k%97 != 0 {
			continue
		}
		f := a.e.Fork()
		for _, y := range l {
			f.Put(y)
		}
		for _, c := range near(f.Cut()) {
			wantJust(t, a, all, c, 2)
		}
	}
}

// P15.6: every single bit of packed bytes turned: refused, or other symbols, of which these bytes are written again.
func TestEveryBitTurned(t *testing.T) {
	l := []api.Symbol{lit(65), rep(4, 0), lit(66), match(20, 1), lit(0), short(), lit(255), rep(5, 1)}
	for name, begin := range situations {
		t.Run(name, func(t *testing.T) {
			for k := range l {
				wantTurned(t, begin, l[:k+1])
			}
		})
	}
}

func wantTurned(t *testing.T, begin func(t *testing.T) *pair, l []api.Symbol) {
	t.Helper()
	a := begin(t)
	a.w.put(t, l...)
	packed := a.w.cut()
	for i := range 8 * len(packed) {
		b := bytes.Clone(packed)
		b[i/8] ^= 1 << (i % 8)
		a := begin(t)
		got, _, errno := a.d.Take(b, size(l))
		if errno == api.ErrFormat {
			continue
		}
		if errno != api.OK || slices.Equal(got, l) {
			t.Fatalf("the bit %d turned: %+v, error %d", i, got, errno)
		}
		a.w.put(t, got...)
		if c := a.w.cut(); !bytes.Equal(c, b) {
			t.Fatalf("% X was taken, % X is written again", b, c)
		}
	}
}

// P15.6: of bytes made by chance, and of packed bytes with some changed: Take answers what one answers who reads by the words of the chapters; what is taken is cut again byte for byte.
func TestAnyBytes(t *testing.T) {
	r := rand.New(rand.NewSource(1583))
	taken := 0
	for k := range 30000 {
		p := boundProps[k%len(boundProps)]
		a, back := newCouple(t, p, 40), newReader(p, 40)
		raw := count(r.Intn(3) * r.Intn(50))
		a.raw(raw...)
		back.came = bytes.Clone(raw)
		b, n := anyBytes(t, r, a)
		l, data, ok := back.read(b, n)
		got, made, errno := a.d.Take(b, n)
		if (errno == api.OK) != ok || !ok && errno != api.ErrFormat {
			t.Fatalf("Take(% X, %d): error %d; by the words %+v, %v", b, n, errno, l, ok)
		}
		if !ok {
			continue
		}
		taken++
		if !slices.Equal(got, l) || !bytes.Equal(made, data) {
			t.Fatalf("Take(% X, %d): %+v, want %+v", b, n, got, l)
		}
		wantCutAgain(t, a.again, got, b)
	}
	if taken < 1000 {
		t.Errorf("just %d were taken", taken)
	}
}

// anyBytes: bytes by chance, or packed ones, as they are or with some changed, and a number for them.
func anyBytes(t *testing.T, r *rand.Rand, a *couple) ([]byte, int) {
	t.Helper()
	if r.Intn(3) == 0 {
		b := make([]byte, r.Intn(14))
		r.Read(b)
		if len(b) > 0 {
			b[0] = 0
		}
		return b, 1 + r.Intn(6)
	}
	l := a.w.chance(r, 1+r.Intn(8))
	for _, y := range l {
		if errno := a.e.Put(y); errno != api.OK {
			t.Fatalf("%+v: error %d", y, errno)
		}
	}
	b, n := a.e.Cut(), max(1, size(l))
	switch r.Intn(5) {
	case 0:
		b[r.Intn(len(b))] = byte(r.Intn(256))
	case 1:
		b = plus(b, uint32(1+r.Intn(4)))
	case 2:
		n = max(1, n+r.Intn(5)-2)
	}
	return b, n
}

// P15.2: one byte string may be packed bytes of several numbers n: behind many zeros further ones need no byte more. Each is taken, as so many literals, and nothing above.
func TestSeveralNumbers(t *testing.T) {
	begin := func() *couple {
		a := newCouple(t, usual, 4096)
		a.pass(t, slices.Repeat([]api.Symbol{lit(0)}, 3000)...)
		return a
	}
	for _, first := range [][]api.Symbol{nil, {lit(77)}, {lit(1), match(9, 3), lit(2), lit(0), lit(0)}} {
		// How many zeros behind the first ones need no byte more than none?
		several := map[string][]int{}
		for zeros := range 80 {
			a := begin()
			l := append(slices.Clone(first), slices.Repeat([]api.Symbol{lit(0)}, zeros)...)
			b := a.pass(t, l...)
			several[string(b)] = append(several[string(b)], size(l))
		}
		most := 0
		for b, sizes := range several {
			most = max(most, len(sizes))
			top := slices.Max(sizes)
			if top < size(first)+79 {
				wantRefused(t, begin().d, []byte(b), top+1, api.ErrFormat)
			}
			for _, n := range sizes {
				if n == 0 {
					continue
				}
				if l, data, errno := begin().d.Take([]byte(b), n); errno != api.OK || len(data) != n || size(l) != n {
					t.Fatalf("Take(% X, %d): error %d", b, n, errno)
				}
			}
		}
		if most < 5 {
			t.Errorf("behind %+v a byte string has %d numbers at most", first, most)
		}
	}
}
