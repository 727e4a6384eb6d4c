package window_test

import (
	"runtime"
	"testing"

	"pith/api"
	"pith/window"
)

// The chapter's examples, in their order.
func TestExamples(t *testing.T) {
	wantNoNew(t, 0)
	wantNoNew(t, -1)
	wantNoNew(t, 4294967296)
	w := made(t, 4)
	wantNoLast(t, w, 1)
	wantNoCopy(t, w, 1, 0)
	w.Put(7, 8, 9)
	wantCounts(t, w, 4, 3, 3)
	wantLast(t, w, 1, 9)
	wantLast(t, w, 3, 7)
	wantNoLast(t, w, 4)
	wantCopy(t, w, 2, 8, 9, 8, 9, 8)
	wantCounts(t, w, 4, 4, 8)
	wantLast(t, w, 4, 9)
	wantNoLast(t, w, 5)
	wantNoCopy(t, w, 5, 1)
	wantNoCopy(t, w, 4, 274)
	wantNoCopy(t, w, 4, -1)
	wantCopy(t, w, 4)
	f := w.Fork()
	f.Put(1)
	wantLast(t, f, 1, 1)
	wantLast(t, w, 1, 8)
	w.Clear()
	wantCounts(t, w, 4, 0, 0)
	wantNoLast(t, w, 1)
}

func wantNoNew(t *testing.T, size int) {
	t.Helper()
	if w, errno := window.New(size); w != nil || errno != api.ErrRange {
		t.Errorf("New(%d): a window %v, error %d; want ErrRange", size, w != nil, errno)
	}
}

// P10.1: what is below 1 or above MaxTold is refused, and what stands at the edges not.
func TestNewOfNoSize(t *testing.T) {
	for _, size := range []int{0, -1, -2, -4096, -1 << 31, -1 << 32, -1<<32 + 1, least, least + 1, api.MaxTold + 1, api.MaxTold + 2, 1<<32 + 4096, 1 << 33, 1 << 62, greatest - 1, greatest} {
		wantNoNew(t, size)
	}
}

// P10.1: a new window has its size, and no byte has come.
func TestNewIsEmpty(t *testing.T) {
	for _, size := range []int{1, 2, 3, 4096, 1<<31 - 1, 1 << 31, 1<<31 + 1, api.MaxTold - 1, api.MaxTold} {
		p := newPair(t, size)
		p.same(t)
		wantNoLast(t, p.w, 1)
		wantNoLast(t, p.w, size)
		wantNoCopy(t, p.w, 1, 0)
		wantNoCopy(t, p.w, 1, 1)
		p.put(0)
		p.same(t)
	}
}

// taken: how many bytes of memory something takes in all.
func taken(call func()) uint64 {
	var before, behind runtime.MemStats
	runtime.ReadMemStats(&before)
	call()
	runtime.ReadMemStats(&behind)
	return behind.TotalAlloc - before.TotalAlloc
}

// P10.1, W7: memory is taken as bytes come, not for the size; forks and beginnings anew take none for it either.
func TestMemoryIsTakenAsBytesCome(t *testing.T) {
	total := 0
	few := taken(func() {
		for range 100 {
			w, _ := window.New(api.MaxTold)
			w.Put(1, 2, 3)
			w.Copy(3, 273)
			f := w.Fork()
			f.Put(4)
			w.Clear()
			w.Put(5)
			total += w.Full() + f.Full()
		}
	})
	if total != 100*(1+277) || few > 1<<20 {
		t.Errorf("a hundred great windows with some bytes each took %d bytes of memory", few)
	}
	b := make([]byte, 1<<20)
	many := taken(func() {
		w, _ := window.New(api.MaxTold)
		for _, piece := range pieces(b, 1000) {
			w.Put(piece...)
		}
		total = w.Full()
	})
	if total != 1<<20 || many > 16<<20 {
		t.Errorf("a great window with %d bytes took %d bytes of memory", total, many)
	}
}

// P10.1, P10.2: of many bytes a small window holds no more than its size: it takes no more memory then.
func TestSmallWindowsTakeLittleMemory(t *testing.T) {
	b := make([]byte, 1<<16)
	w := made(t, 4096)
	n := taken(func() {
		for range 100 {
			w.Put(b...)
		}
	})
	wantCounts(t, w, 4096, 4096, 100<<16)
	if n > 1<<16 {
		t.Errorf("a window of 4096 took %d bytes of memory", n)
	}
}
