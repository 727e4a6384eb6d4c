package index_test

import (
	"math"
	"math/rand"
	"slices"
	"testing"

	"pith/api"
	"pith/index"
)

// wantPlaces: these, where the last one ends, and how many plain bytes there are.
func wantPlaces(t *testing.T, from int, l []api.Record, want []api.Place, end, plain int) {
	t.Helper()
	p, gotEnd, gotPlain, errno := index.Places(from, l...)
	if !slices.Equal(p, want) || gotEnd != end || gotPlain != plain || errno != api.OK {
		t.Errorf("Places(%d, %s): %v, %d, %d, error %d; want %v, %d, %d", from, shownList(l), p[:min(8, len(p))], gotEnd, gotPlain, errno, want[:min(8, len(want))], end, plain)
	}
}

// wantNoPlaces: ErrRange, and every other result is zero.
func wantNoPlaces(t *testing.T, from int, l []api.Record) {
	t.Helper()
	if p, end, plain, errno := index.Places(from, l...); len(p) != 0 || end != 0 || plain != 0 || errno != api.ErrRange {
		t.Errorf("Places(%d, %s): %v, %d, %d, error %d; want error %d", from, shownList(l), p[:min(8, len(p))], end, plain, errno, api.ErrRange)
	}
}

// placesByWords: each place by all records ahead of it.
func placesByWords(from int, l []api.Record) []api.Place {
	p := []api.Place{}
	for i, r := range l {
		off, start, _ := togetherByWords(from, l[:i])
		p = append(p, api.Place{Off: off, Record: r, Start: start})
	}
	return p
}

// wantPlacesByWords: what the words say; their error.
func wantPlacesByWords(t *testing.T, from int, l []api.Record) api.Errno {
	t.Helper()
	end, plain, ok := togetherByWords(max(from, 0), l)
	if from < 0 || !ok {
		wantNoPlaces(t, from, l)
		return api.ErrRange
	}
	wantPlaces(t, from, l, placesByWords(from, l), end, plain)
	return api.OK
}

// P23.3: the chapter's examples.
func TestPlacesOfExamples(t *testing.T) {
	wantPlaces(t, 12, list(19, 3, 20, 0, 21, 5), []api.Place{{Off: 12, Record: rec(19, 3), Start: 0}, {Off: 32, Record: rec(20, 0), Start: 3}, {Off: 52, Record: rec(21, 5), Start: 3}}, 76, 8)
	wantNoPlaces(t, -1, nil)
	wantPlaces(t, 5, nil, nil, 5, 0)
}

// P23.3: the padded size of each unpadded one, and any place to begin at.
func TestPlacesOfPaddedSizes(t *testing.T) {
	for _, from := range []int{0, 1, 2, 3, 12, 13, 1 << 40} {
		for _, c := range [][2]int{{5, 8}, {6, 8}, {7, 8}, {8, 8}, {9, 12}, {12, 12}, {13, 16}, {1 << 40, 1 << 40}, {1<<40 + 1, 1<<40 + 4}} {
			first := api.Place{Off: from, Record: rec(c[0], 7)}
			wantPlaces(t, from, list(c[0], 7), []api.Place{first}, from+c[1], 7)
			wantPlaces(t, from, list(c[0], 7, 8, 1), []api.Place{first, {Off: from + c[1], Record: rec(8, 1), Start: 7}}, from+c[1]+8, 8)
		}
	}
}

// froms: where the first block may begin, for a list that has so many padded bytes: from 0 on, and just as far as they allow.
func froms(padded int) []int {
	return []int{0, 1, min(12, greatest-padded), (greatest - padded) / 2, greatest - padded - 1, greatest - padded}
}

// P23.3: just as great as the sums allow, and one more; and below 0.
func TestPlacesFromEverywhere(t *testing.T) {
	for _, l := range rightLists() {
		if len(l) > 200 {
			continue
		}
		padded, _, _ := togetherByWords(0, l)
		for _, from := range froms(padded) {
			if wantPlacesByWords(t, from, l) != api.OK {
				t.Errorf("%d ahead of %d bytes is refused", from, padded)
			}
		}
		for _, from := range []int{greatest - padded + 1, greatest - padded + 2, greatest - padded + 4, greatest - 1, greatest} {
			if from < 0 || from <= greatest-padded {
				continue
			}
			wantNoPlaces(t, from, l)
		}
		for _, from := range []int{-1, -2, -4, -8, -12, -1 << 32, -padded, -padded - 1, math.MinInt, math.MinInt + 1} {
			if from < 0 {
				wantNoPlaces(t, from, l)
			}
		}
	}
	wantPlaces(t, greatest, nil, nil, greatest, 0)
	wantPlaces(t, greatest-8, list(5, 1), []api.Place{{Off: greatest - 8, Record: rec(5, 1)}}, greatest, 1)
	wantNoPlaces(t, greatest-7, list(5, 1))
	wantNoPlaces(t, greatest, list(5, 1))
	wantPlaces(t, 3, list(greatest-3, 0), []api.Place{{Off: 3, Record: rec(greatest-3, 0)}}, greatest, 0)
	wantNoPlaces(t, 4, list(greatest-3, 0))
}

// P23.3: lists that are not right, from wherever.
func TestPlacesOfWrongLists(t *testing.T) {
	for _, l := range wrongLists() {
		for _, from := range []int{math.MinInt, -1, 0, 12, 1 << 62, greatest} {
			wantNoPlaces(t, from, l)
		}
	}
}

// P23.3: long lists, all of whose places are held against what is ahead of them.
func TestPlacesOfLongLists(t *testing.T) {
	for n := range 40 {
		l := many(int64(n), 20*n)
		off, start := 12, 0
		var want []api.Place
		for _, r := range l {
			want = append(want, api.Place{Off: off, Record: r, Start: start})
			off += (r.Unpadded + 3) / 4 * 4
			start += r.Size
		}
		wantPlaces(t, 12, l, want, off, start)
	}
}

// P23.3: by chance, whatever is right or wrong.
func TestPlacesByTheWords(t *testing.T) {
	r := rand.New(rand.NewSource(233))
	froms := []int{-1, 0, 0, 12, 13, 1 << 40, 1 << 61, 1 << 62, greatest - 16, greatest - 8, greatest}
	unpadded := []int{-1, 4, 5, 5, 6, 7, 8, 9, 300, 1 << 40, 1 << 61, 1<<62 - 4, 1 << 62, greatest - 11, greatest - 7, greatest - 3, greatest - 2}
	size := []int{-1, 0, 0, 0, 1, 127, 300, 1 << 40, 1 << 61, 1 << 62, 1<<62 - 1, greatest}
	met := map[api.Errno]int{}
	for range 20000 {
		var l []api.Record
		for range r.Intn(5) {
			l = append(l, rec(unpadded[r.Intn(len(unpadded))], size[r.Intn(len(size))]))
		}
		met[wantPlacesByWords(t, froms[r.Intn(len(froms))], l)]++
	}
	if min(met[api.OK], met[api.ErrRange]) < 3000 {
		t.Errorf("what was met: %v", met)
	}
}
