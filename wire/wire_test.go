package wire_test

import (
	"math"
	"math/rand"
	"reflect"
	"testing"

	"pith/api"
	"pith/wire"
)

// P1.6: around multiples of four, near the greatest number, below 0.
func TestPad(t *testing.T) {
	for _, c := range [][2]int{{0, 0}, {1, 3}, {2, 2}, {3, 1}, {4, 0}, {5, 3}, {6, 2}, {7, 1}, {8, 0}, {9, 3}, {65535, 1}, {65536, 0}, {65537, 3},
		{math.MaxInt, 1}, {math.MaxInt - 1, 2}, {math.MaxInt - 2, 3}, {math.MaxInt - 3, 0}} {
		if got := wire.Pad(c[0]); got != c[1] {
			t.Errorf("Pad(%d) = %d, want %d", c[0], got, c[1])
		}
	}
	for _, n := range append([]int{-3, -5, -6, -7, -8}, belowZero...) {
		if got := wire.Pad(n); got != 0 {
			t.Errorf("Pad(%d) = %d, want 0", n, got)
		}
	}
	for n := range 1000 {
		if k := wire.Pad(n); k < 0 || k > 3 || (n+k)%4 != 0 {
			t.Errorf("Pad(%d) = %d", n, k)
		}
	}
}

// step: one thing that is written and read again.
type step struct {
	kind, n int
	v       uint64
	bytes   []byte
}

func someSteps(x *rand.Rand) []step {
	var all []step
	for range x.Intn(40) {
		s := step{kind: x.Intn(4), n: 1 + x.Intn(8), v: x.Uint64() >> x.Intn(64)}
		s.bytes = make([]byte, x.Intn(20))
		for i := range s.bytes {
			s.bytes[i] = byte(x.Intn(256))
		}
		all = append(all, s)
	}
	return all
}

func writeStep(t *testing.T, w *wire.Writer, s step) {
	t.Helper()
	switch s.kind {
	case 0:
		wantCode(t, "Low", w.Low(s.v, s.n), api.OK)
	case 1:
		wantCode(t, "High", w.High(s.v, s.n), api.OK)
	case 2:
		w.Put(s.bytes...)
	case 3:
		wantCode(t, "Zeros", w.Zeros(s.n), api.OK)
	}
}

func readStep(t *testing.T, r *wire.Reader, s step) {
	t.Helper()
	switch s.kind {
	case 0:
		v, e := r.Low(s.n)
		wantNumber(t, "Low", v, e, modulo(s.v, s.n), api.OK)
	case 1:
		v, e := r.High(s.n)
		wantNumber(t, "High", v, e, modulo(s.v, s.n), api.OK)
	case 2:
		p, e := r.Take(len(s.bytes))
		wantCode(t, "Take", e, api.OK)
		wantBytes(t, "Take", p, s.bytes...)
	case 3:
		wantCode(t, "Zeros", r.Zeros(s.n), api.OK)
	}
}

// P1.7
func TestThereAndBack(t *testing.T) {
	x := rand.New(rand.NewSource(1))
	for range 500 {
		steps := someSteps(x)
		w := wire.NewWriter()
		for _, s := range steps {
			writeStep(t, w, s)
		}
		r := wire.NewReader(w.Bytes())
		wantPlace(t, "at the front", r, 0, w.Len())
		for _, s := range steps {
			readStep(t, r, s)
		}
		wantPlace(t, "at the end", r, w.Len(), 0)
		if t.Failed() {
			t.Fatalf("with the steps %v", steps)
		}
	}
}

// P1.8: a list that is handed in stays as it is, and so does the room behind it; what becomes of it later is not seen.
func TestListsAreLeftAlone(t *testing.T) {
	room := count(40)
	w := wire.NewWriter()
	w.Put(room[:3]...)
	w.Put(9)
	w.Low(1<<64-1, 8)
	w.Zeros(8)
	r := wire.NewReader(room[:3])
	r.Take(2)
	r.Zeros(1)
	r.U8()
	wantBytes(t, "what was handed in", room, count(40)...)
	spoil(room)
	want := append(count(3), 9, 255, 255, 255, 255, 255, 255, 255, 255, 0, 0, 0, 0, 0, 0, 0, 0)
	wantWritten(t, "the writer", w, want...)
}

// P1.8: the first list that is put must not become the writer's own.
func TestFirstPutIsNotKept(t *testing.T) {
	b := make([]byte, 3, 16)
	w := wire.NewWriter()
	w.Put(b...)
	b[0] = 9
	w.Put(7)
	wantWritten(t, "the writer", w, 0, 0, 0, 7)
	wantBytes(t, "the list and its room", b[:4], 9, 0, 0, 0)
}

// P1.8: writers and readers know nothing of one another.
func TestObjectsAreApart(t *testing.T) {
	a, b := wire.NewWriter(), wire.NewWriter()
	a.Put(1)
	b.Put(2, 3)
	a.Low(0, 9)
	wantCode(t, "Low of the other", b.Low(4, 1), api.OK)
	wantWritten(t, "the one", a, 1)
	wantWritten(t, "the other", b, 2, 3, 4)

	bytes := count(4)
	r, s := wire.NewReader(bytes), wire.NewReader(bytes)
	r.Take(3)
	wantPlace(t, "the one", r, 3, 1)
	wantPlace(t, "the other", s, 0, 4)
	s.Take(-1)
	v, e := r.U8()
	wantNumber(t, "U8", uint64(v), e, 4, api.OK)
	v, e = s.U8()
	wantNumber(t, "U8", uint64(v), e, 1, api.OK)

	x := wire.NewReader(a.Bytes())
	a.Put(5)
	wantPlace(t, "a reader of what was written", x, 0, 1)
}

// P1.8: all numbers, at every place: each call ends, and the place stays within the bytes.
func TestCalm(t *testing.T) {
	odd := []int{math.MinInt, math.MinInt + 1, -65537, -9, -8, -1, 0, 1, 2, 7, 8, 9, 255, 65535, 65536, 65537, math.MaxInt - 1, math.MaxInt}
	for size := range 12 {
		for off := range size + 1 {
			for _, n := range odd {
				r := wire.NewReader(make([]byte, size))
				r.Take(off)
				r.Low(n)
				r.High(n)
				r.Zeros(n)
				r.Take(n)
				if r.Off() < off || r.Left() < 0 || r.Off()+r.Left() != size {
					t.Errorf("size %d, off %d, n %d: Off %d, Left %d", size, off, n, r.Off(), r.Left())
				}
			}
		}
	}
	w := wire.NewWriter()
	for _, n := range odd {
		w.Low(1, n)
		w.High(1, n)
		w.Zeros(n)
		wire.Pad(n)
		if w.Len() != len(w.Bytes()) {
			t.Errorf("n %d: Len %d of %d bytes", n, w.Len(), len(w.Bytes()))
		}
	}
}

// The section Ways: reader and writer embed one common counter.
func TestOneCounterIsEmbedded(t *testing.T) {
	r, ok := reflect.TypeFor[wire.Reader]().FieldByName("counter")
	if !ok || !r.Anonymous {
		t.Fatal("the reader embeds no counter")
	}
	w, ok := reflect.TypeFor[wire.Writer]().FieldByName("counter")
	if !ok || !w.Anonymous || w.Type != r.Type {
		t.Error("the writer embeds no counter, or another one")
	}
}
