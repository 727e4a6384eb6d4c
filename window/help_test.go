package window_test

import (
	"bytes"
	"math/rand"
	"slices"
	"testing"

	"pith/api"
	"pith/window"
)

// The greatest and the least int.
const (
	greatest = 1<<63 - 1
	least    = -1 << 63
)

// sizes: of windows, from the least on, with those that the tests' bytes never fill.
var sizes = []int{1, 2, 3, 4, 5, 7, 8, 16, 100, 272, 273, 274, 545, 546, 547, 1000, 4096, 1 << 31, api.MaxTold}

// smallSizes: those that some hundred bytes fill.
var smallSizes = sizes[:13]

// noDistances: numbers that are no distance in any window of the tests.
var noDistances = []int{-1, 0, -2, -273, -1 << 31, -1 << 32, least, least + 1, 1 << 30, 1 << 31, api.MaxTold - 1, api.MaxTold, api.MaxTold + 1, 1<<32 + 1, 1 << 62, greatest - 1, greatest}

// noLengths: numbers of bytes that Copy refuses.
var noLengths = []int{-1, -2, -273, -1 << 31, -1 << 32, least, least + 1, 274, 275, 512, 1<<16 + 1, 1 << 31, 1<<32 + 1, 1<<32 + 273, 1 << 62, greatest - 1, greatest}

// lengths: numbers of bytes that Copy takes, the edges among them.
var lengths = []int{0, 1, 2, 3, 4, 5, 8, 17, 100, 136, 137, 271, 272, 273}

// row: a window by the words of the chapter: its size, and all bytes that came since it was begun.
type row struct {
	size int
	all  []byte
}

func (u *row) full() int { return min(u.size, len(u.all)) }

// last: the byte that came d bytes ago.
func (u *row) last(d int) byte { return u.all[len(u.all)-d] }

// held: the bytes that a window holds, the oldest first.
func (u *row) held() []byte { return u.all[len(u.all)-u.full():] }

// copied: n bytes come one after the other, each the one that came d bytes before it.
func (u *row) copied(d, n int) []byte {
	for range n {
		u.all = append(u.all, u.last(d))
	}
	return bytes.Clone(u.all[len(u.all)-n:])
}

func (u *row) fork() *row { return &row{u.size, bytes.Clone(u.all)} }

// made: a window of that size.
func made(t *testing.T, size int) *window.Window {
	t.Helper()
	w, errno := window.New(size)
	if w == nil || errno != api.OK {
		t.Fatalf("New(%d): error %d", size, errno)
	}
	return w
}

// wantLast: that byte is told of the distance.
func wantLast(t *testing.T, w *window.Window, d int, want byte) {
	t.Helper()
	if b, errno := w.Last(d); b != want || errno != api.OK {
		t.Errorf("Last(%d): %d, error %d; want %d", d, b, errno, want)
	}
}

// wantNoLast: the distance is not in the window.
func wantNoLast(t *testing.T, w *window.Window, d int) {
	t.Helper()
	if b, errno := w.Last(d); b != 0 || errno != api.ErrRange {
		t.Errorf("Last(%d): %d, error %d; want ErrRange", d, b, errno)
	}
}

// wantNoCopy: it is refused, without bytes.
func wantNoCopy(t *testing.T, w *window.Window, d, n int) {
	t.Helper()
	if b, errno := w.Copy(d, n); len(b) != 0 || errno != api.ErrRange {
		t.Errorf("Copy(%d, %d): % X, error %d; want ErrRange", d, n, b, errno)
	}
}

// wantCounts: its size, how many bytes it holds, and how many came.
func wantCounts(t *testing.T, w *window.Window, size, full, pos int) {
	t.Helper()
	if w.Size() != size || w.Full() != full || w.Pos() != pos {
		t.Errorf("Size %d, Full %d, Pos %d; want %d, %d, %d", w.Size(), w.Full(), w.Pos(), size, full, pos)
	}
}

// wantHeld: the window holds just these bytes, the oldest first, and no distance beyond them is in it.
func wantHeld(t *testing.T, w *window.Window, want ...byte) {
	t.Helper()
	got := []byte{}
	for d := len(want); d >= 1; d-- {
		b, errno := w.Last(d)
		if errno != api.OK {
			t.Errorf("Last(%d) of %d: error %d", d, len(want), errno)
		}
		got = append(got, b)
	}
	if !bytes.Equal(got, want) {
		t.Errorf("it holds % X, want % X", got, want)
	}
	wantNoLast(t, w, len(want)+1)
	wantNoLast(t, w, 0)
}

// copied: bytes that are answered without an error.
func copied(t *testing.T, w *window.Window, d, n int) []byte {
	t.Helper()
	b, errno := w.Copy(d, n)
	if len(b) != n || errno != api.OK {
		t.Fatalf("Copy(%d, %d): %d bytes, error %d", d, n, len(b), errno)
	}
	return b
}

// pair: a window, and beside it the same by the words of the chapter.
type pair struct {
	w *window.Window
	u *row
}

func newPair(t *testing.T, size int) *pair {
	t.Helper()
	return &pair{made(t, size), &row{size: size}}
}

func (p *pair) put(b ...byte) {
	p.w.Put(b...)
	p.u.all = append(p.u.all, b...)
}

// copy: into both; they answer the same.
func (p *pair) copy(t *testing.T, d, n int) {
	t.Helper()
	got, want := copied(t, p.w, d, n), p.u.copied(d, n)
	if !bytes.Equal(got, want) {
		t.Fatalf("size %d, behind %d bytes: Copy(%d, %d): % X, want % X", p.u.size, len(p.u.all)-n, d, n, got, want)
	}
}

func (p *pair) clear() {
	p.w.Clear()
	p.u.all = nil
}

func (p *pair) fork(t *testing.T) *pair {
	t.Helper()
	f := p.w.Fork()
	if f == nil || f == p.w {
		t.Fatal("Fork answers no other window")
	}
	return &pair{f, p.u.fork()}
}

// same: the window answers what the words say, of every distance.
func (p *pair) same(t *testing.T) {
	t.Helper()
	wantCounts(t, p.w, p.u.size, p.u.full(), len(p.u.all))
	wantHeld(t, p.w, p.u.held()...)
	for _, d := range noDistances {
		wantNoLast(t, p.w, d)
	}
	if t.Failed() {
		t.Fatalf("of a window of %d, behind %d bytes", p.u.size, len(p.u.all))
	}
}

// chance: a put, a copy, or (seldom) a clear, whichever.
func (p *pair) chance(t *testing.T, r *rand.Rand) {
	t.Helper()
	full := p.u.full()
	switch k := r.Intn(40); {
	case k == 0:
		p.clear()
	case k < 16 && full > 0:
		d := []int{1, full, 1 + r.Intn(full), 1 + r.Intn(min(full, 9))}[r.Intn(4)]
		p.copy(t, d, lengths[r.Intn(len(lengths))])
	default:
		p.put(chanceBytes(r, []int{0, 1, 2, r.Intn(9), r.Intn(600)}[r.Intn(5)])...)
	}
}

// chanceBytes: n of them.
func chanceBytes(r *rand.Rand, n int) []byte {
	b := make([]byte, n)
	for i := range b {
		b[i] = byte(r.Intn(256))
	}
	return b
}

// count: n bytes, none like its neighbours, which repeat only far apart.
func count(n int) []byte {
	b := make([]byte, n)
	for i := range b {
		b[i] = byte(i*7 + i/256*3 + 1)
	}
	return b
}

// pieces: b cut into pieces of n bytes, the last one the rest.
func pieces(b []byte, n int) [][]byte { return slices.Collect(slices.Chunk(b, n)) }

// spoil: every byte, and every byte of the spare room.
func spoil(b []byte) {
	b = b[:cap(b)]
	for i := range b {
		b[i] = ^b[i]
	}
}
