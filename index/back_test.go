package index_test

import (
	"bytes"
	"math/rand"
	"slices"
	"testing"

	"pith/api"
	"pith/index"
)

// wantAgain: P23.5, of bytes that Get takes: laid again they are what they were.
func wantAgain(t *testing.T, b []byte) {
	t.Helper()
	l, n, errno := index.Get(b)
	if errno != api.OK {
		t.Errorf("Get(%s): error %d", shown(b), errno)
		return
	}
	wantPut(t, l, b[:n]...)
}

// P23.5: lists there and back, with anything behind; and there again.
func TestThereAndBack(t *testing.T) {
	for _, l := range rightLists() {
		b := laid(t, l)
		for _, behind := range [][]byte{nil, {0}, {0xFF, 0xFF}, b, noise(11, 50)} {
			wantGet(t, append(bytes.Clone(b), behind...), l, len(b))
			wantAgain(t, append(bytes.Clone(b), behind...))
		}
	}
	for n := range 300 {
		l := many(int64(n), n)
		wantGet(t, laid(t, l), l, len(laid(t, l)))
	}
}

// P23.5: lists by chance, their sizes of every number of bytes.
func TestThereAndBackByChance(t *testing.T) {
	r := rand.New(rand.NewSource(236))
	back := 0
	for range 20000 {
		var l []api.Record
		for range r.Intn(6) {
			l = append(l, rec(int(r.Uint64()>>(1+r.Intn(62))), int(r.Uint64()>>(1+r.Intn(63)))))
		}
		b, errno := index.Put(l...)
		if errno != api.OK {
			continue
		}
		back++
		wantGet(t, append(b, 1, 2, 3), l, len(b))
	}
	if back < 10000 {
		t.Errorf("%d were laid", back)
	}
}

// P23.5: of bytes by chance that Get takes: no others are the same records.
func TestBackAndThere(t *testing.T) {
	r := rand.New(rand.NewSource(237))
	taken := 0
	for range 100000 {
		count := r.Intn(4)
		b := []byte{0, byte(count)}
		for range 2 * count {
			b = append(b, sevens(r.Uint64()>>(1+r.Intn(63)))...)
		}
		if r.Intn(3) == 0 {
			b[len(b)-1] = likely(r)
		}
		b = append(filled(b...), b[:r.Intn(len(b))]...)
		if wantGetByWords(t, b) == api.OK {
			taken++
			wantAgain(t, b)
		}
	}
	if taken < 30000 {
		t.Errorf("%d were taken", taken)
	}
}

// P23.5, P23.3: a list that was read has the places of the one that was laid.
func TestPlacesOfWhatWasRead(t *testing.T) {
	l := many(12, 200)
	got, _, _ := index.Get(laid(t, l))
	if !slices.Equal(placed(t, 12, got), placed(t, 12, l)) {
		t.Error("other places")
	}
}
