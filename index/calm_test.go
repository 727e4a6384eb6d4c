package index_test

import (
	"bytes"
	"math"
	"math/rand"
	"runtime"
	"slices"
	"sync"
	"testing"

	"pith/api"
	"pith/index"
)

// extremes: of every int that is handed in.
var extremes = []int{math.MinInt, math.MinInt + 1, -1 << 32, -5, -4, -1, 0, 1, 4, 5, 8, 127, 1 << 32, 1 << 61, 1 << 62, math.MaxInt - 4, math.MaxInt - 3, math.MaxInt - 2, math.MaxInt - 1, math.MaxInt}

// P23.7: every call ends, and none panics, at all edges of two records.
func TestListsEnd(t *testing.T) {
	for _, a := range extremes {
		for _, b := range extremes {
			for _, c := range extremes {
				l := list(a, b, c, b, 8, a)
				wantPutByWords(t, l[:1])
				wantPutByWords(t, l)
				for _, from := range []int{math.MinInt, -1, 0, 12, math.MaxInt - 8, math.MaxInt} {
					wantPlacesByWords(t, from, l[:1])
				}
				wantPlacesByWords(t, c, l[:2])
				p := []api.Place{{Off: a, Record: rec(b, c), Start: a}, {Off: b, Record: rec(c, a), Start: c}}
				if i := index.Find(b, p...); i < -1 || i > 1 {
					t.Errorf("Find(%d) of %v: %d", b, p, i)
				}
			}
		}
	}
}

// P23.7: every call of Get ends, and none panics: bytes by chance, and the same byte again and again.
func TestGetEnds(t *testing.T) {
	for n := range 200 {
		b := noise(int64(n), n)
		wantGetByWords(t, b)
		wantGetByWords(t, append([]byte{0}, b...))
		wantGetByWords(t, append([]byte{0, byte(n)}, b...))
		wantGetByWords(t, filled(append([]byte{0, byte(n)}, b...)...))
	}
	for x := range 256 {
		for _, n := range []int{1, 2, 3, 9, 30} {
			b := append([]byte{0}, bytes.Repeat([]byte{byte(x)}, n)...)
			wantGetByWords(t, b)
			wantGetByWords(t, filled(b...))
		}
	}
}

// P23.7, W4: nil and empty lists are the same.
func TestNilAndEmptyLists(t *testing.T) {
	wantPut(t, []api.Record{}, laid(t, nil)...)
	wantPlaces(t, 7, []api.Record{}, nil, 7, 0)
	wantFind(t, 0, []api.Place{}, -1)
	wantNoGet(t, []byte{}, api.ErrTruncated)
}

// P23.7: Put, Size, Places and Find change nothing of a list, nor of the room behind it, whatever they answer.
func TestListsAreLeftAlone(t *testing.T) {
	for _, given := range append(rightLists(), wrongLists()...) {
		l := withRoom(given, rec(7, 7), rec(-1, 3), rec(9, 1<<62))
		was := slices.Clone(l[:cap(l)])
		wantPutByWords(t, l)
		_, _, plain, _ := index.Places(12, l...)
		if !slices.Equal(l[:cap(l)], was) {
			t.Fatalf("%s has changed", shownList(given))
		}
		if plain == 0 {
			continue
		}
		p := withRoom(placed(t, 0, given), api.Place{Off: 1, Record: rec(2, 3), Start: 4}, api.Place{Start: -1})
		had := slices.Clone(p[:cap(p)])
		for _, off := range []int{-1, 0, plain / 2, plain - 1, plain} {
			index.Find(off, p...)
		}
		if !slices.Equal(p[:cap(p)], had) {
			t.Fatalf("the places of %s have changed", shownList(given))
		}
	}
}

// P23.7: Get changes nothing of the bytes, nor of the room behind them, whatever it answers.
func TestGetChangesNothing(t *testing.T) {
	r := rand.New(rand.NewSource(240))
	good := laid(t, list(130, 300))
	all := [][]byte{nil, {0}, {1}, {0, 0x80, 0}, {0, 1, 4}, good, good[:9], append(bytes.Clone(good), 1, 2, 3), laid(t, nil), laid(t, many(16, 200))}
	for range 200 {
		b := bytes.Clone(good)
		b[r.Intn(len(b))] ^= 1 << r.Intn(8)
		all = append(all, b)
	}
	for _, b := range all {
		given := withRoom(b, 0, 0x80, 0xFF, 5, 0, 0, 0, 0)
		was := bytes.Clone(given[:cap(given)])
		wantGetByWords(t, given)
		if !bytes.Equal(given[:cap(given)], was) {
			t.Errorf("Get(%s) has changed it", shown(b))
		}
	}
}

// P23.7: Put's answer is new memory each time; it hangs on the list no more, and no later answer shows what became of it.
func TestPutIsNewMemory(t *testing.T) {
	for _, given := range [][]api.Record{nil, list(19, 3), list(128, 1), many(17, 200)} {
		l := slices.Clone(given)
		want, _ := putByWords(given)
		one, _ := index.Put(l...)
		other, _ := index.Put(l...)
		spoil(one, 0x55)
		if !bytes.Equal(other, want) || !slices.Equal(l, given) {
			t.Errorf("Put(%s): answers share memory", shownList(given))
		}
		spoil(l, rec(77, 78))
		if !bytes.Equal(other, want) {
			t.Errorf("Put(%s): the answer hangs on the list later", shownList(given))
		}
		wantPut(t, given, want...)
	}
}

// P23.7: Get's likewise.
func TestGetIsNewMemory(t *testing.T) {
	for _, want := range [][]api.Record{nil, list(19, 3), list(128, 1), many(18, 200)} {
		b := laid(t, want)
		was := bytes.Clone(b)
		one, _, _ := index.Get(b)
		other, _, _ := index.Get(b)
		spoil(one, rec(77, 78))
		if !slices.Equal(other, want) || !bytes.Equal(b, was) {
			t.Errorf("Get(%s): answers share memory", shown(was))
		}
		wantGet(t, b, want, len(b))
		spoil(b, 0x55)
		if !slices.Equal(other, want) {
			t.Errorf("Get(%s): the answer hangs on the bytes later", shown(was))
		}
		wantGet(t, was, want, len(was))
	}
}

// P23.7: the places are too.
func TestPlacesAreNewMemory(t *testing.T) {
	for _, given := range [][]api.Record{nil, list(19, 3), list(19, 3, 20, 0, 21, 5), many(19, 200)} {
		l := slices.Clone(given)
		want := placesByWords(12, given)
		end, plain, _ := togetherByWords(12, given)
		one := placed(t, 12, l)
		other := placed(t, 12, l)
		spoil(one, api.Place{Off: 77, Record: rec(78, 79), Start: 80})
		if !slices.Equal(other, want) || !slices.Equal(l, given) {
			t.Errorf("Places(12, %s): answers share memory", shownList(given))
		}
		spoil(l, rec(77, 78))
		if !slices.Equal(other, want) {
			t.Errorf("Places(12, %s): the answer hangs on the list later", shownList(given))
		}
		wantPlaces(t, 12, given, want, end, plain)
	}
}

// takenBy: how much memory a function takes in all.
func takenBy(f func()) uint64 {
	var before, behind runtime.MemStats
	runtime.ReadMemStats(&before)
	f()
	runtime.ReadMemStats(&behind)
	return behind.TotalAlloc - before.TotalAlloc
}

// P23.2, W7: memory is taken as records are there, not as their number says, nor for what stands behind the index.
func TestMemoryIsTakenAsRecordsAreThere(t *testing.T) {
	long := make([]byte, 16<<20)
	var all [][]byte
	for _, b := range [][]byte{laid(t, nil), laid(t, list(19, 3)), laid(t, many(20, 100)), {1}, {0, 0x80, 0}, {0, 0, 0, 1}, row(1<<40, 4), row(1<<30, 19, 3, 0)} {
		all = append(all, append(bytes.Clone(b), long...))
	}
	for _, n := range []uint64{1 << 20, 1 << 31, 1 << 40, 1 << 62, greatest} {
		all = append(all, row(n), row(n, 19, 3), row(n, 19), append(row(n, 19, 3, 20), 0x80))
	}
	if taken := takenBy(func() {
		for _, b := range all {
			index.Get(b)
		}
	}); taken > 1<<20 {
		t.Errorf("Get takes %d bytes", taken)
	}
}

// W2: many at once, and one behind the other after whatever came before, each answers what it answers alone.
func TestManyAtOnce(t *testing.T) {
	l := many(21, 20)
	b, _ := putByWords(l)
	p := placesByWords(12, l)
	end, plain, _ := togetherByWords(12, l)
	var group sync.WaitGroup
	for range 8 {
		group.Go(func() {
			for range 200 {
				wantPut(t, l, b...)
				wantNoPut(t, list(4, 0))
				wantGet(t, b, l, len(b))
				wantNoGet(t, b[:len(b)-1], api.ErrTruncated)
				wantNoGet(t, []byte{0, 1, 4}, api.ErrFormat)
				wantPlaces(t, 12, l, p, end, plain)
				wantNoPlaces(t, -1, l)
				wantFind(t, plain-1, p, len(p)-1)
				wantFind(t, plain, p, -1)
			}
		})
	}
	group.Wait()
}
