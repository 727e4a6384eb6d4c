package finder_test

import (
	"iter"
	"slices"
	"strings"
	"testing"

	"pith/api"
)

// W6: a range that is gone through twice, or left early and begun again, gives the same from its beginning.
func TestRangedOverAgain(t *testing.T) {
	f := standing(t, strings.Repeat("a", 100), 4096, 50)
	seq := f.Matches(273)
	want := gone(f, 273)
	for n := range 34 {
		if got := firstOf(seq, n); !slices.Equal(got, want[:min(n, 32)]) {
			t.Errorf("the first %d: %v", n, got)
		}
		if got := slices.Collect(seq); !slices.Equal(got, want) {
			t.Errorf("behind a range that was left: %v", got)
		}
	}
}

// firstOf: the first n matches; then the range is left.
func firstOf(seq iter.Seq[api.Match], n int) []api.Match {
	got := []api.Match{}
	for m := range seq {
		if len(got) == n {
			break
		}
		got = append(got, m)
	}
	return got
}

// W6: a body that says to end is not called again.
func TestLeftMeansLeft(t *testing.T) {
	f := standing(t, strings.Repeat("a", 100), 4096, 50)
	for most := range 35 {
		n := 0
		f.Matches(273)(func(api.Match) bool {
			n++
			return n <= most
		})
		if n != min(most+1, 32) {
			t.Errorf("a body that ends at its call %d was called %d times", most+1, n)
		}
	}
}

// W6: ranges within ranges, of one iterator and of several, three deep, some of them left early.
func TestRangesWithinRanges(t *testing.T) {
	f := standing(t, "abc1abc2abc3abc4", 4096, 12)
	seq := f.Matches(273)
	want := []api.Match{{Len: 3, Dist: 4}, {Len: 3, Dist: 8}, {Len: 3, Dist: 12}}
	outer := []api.Match{}
	for m := range seq {
		outer = append(outer, m)
		middle := []api.Match{}
		for k := range seq {
			middle = append(middle, k)
			if got := slices.Collect(seq); !slices.Equal(got, want) {
				t.Errorf("the inmost range: %v", got)
			}
			for range f.Matches(3) {
				break
			}
			wantBest(t, f, 273, 3, 4)
		}
		if !slices.Equal(middle, want) {
			t.Errorf("the range within: %v", middle)
		}
	}
	if !slices.Equal(outer, want) {
		t.Errorf("the range around: %v", outer)
	}
}

// P11.3: what the body skips changes nothing of that range, however far, and byte by byte or at once.
func TestBodyThatSkips(t *testing.T) {
	data := strings.Repeat("a", 300) + strings.Repeat("abc", 100)
	for _, dict := range []int{5, 20, 31, 32, 33, 100, 4096} {
		for _, pos := range []int{1, 2, 20, 32, 33, 64, 100, 290, 300, 303, 400, 500} {
			for _, step := range []int{0, 1, 2, 3, 30, 90} {
				p := newPair(t, data, dict)
				p.skip(t, pos)
				want := p.u.matches(273)
				got := []api.Match{}
				for m := range p.f.Matches(273) {
					got = append(got, m)
					p.skip(t, min(step, p.left()))
					p.same(t, 273)
				}
				if !slices.Equal(got, want) {
					t.Fatalf("dictionary %d, at %d, a body that skips %d: %v, want %v", dict, pos, step, got, want)
				}
				p.same(t, mosts...)
			}
		}
	}
}

// P11.3: a body that goes to the end of the data, where nothing is found any more: the range goes on.
func TestBodyThatGoesToTheEnd(t *testing.T) {
	f := standing(t, strings.Repeat("abcd", 50), 4096, 100)
	want := gone(f, 273)
	got := []api.Match{}
	for m := range f.Matches(273) {
		got = append(got, m)
		skip(t, f, 200-f.Pos())
		wantNone(t, f, 273)
	}
	if len(want) != 25 || !slices.Equal(got, want) {
		t.Errorf("%v, want %v", got, want)
	}
}

// P11.3: the place that counts is that where the finder stands when a range begins, not when Matches was called; each further range begins anew.
func TestRangeBegunBehindASkip(t *testing.T) {
	p := newPair(t, "abcabcabcdabcabcd", 4096)
	seq := p.f.Matches(273)
	for {
		if got, want := slices.Collect(seq), p.u.matches(273); !slices.Equal(got, want) {
			t.Errorf("at %d: %v, want %v", p.u.pos, got, want)
		}
		if p.left() == 0 {
			return
		}
		p.skip(t, 1)
	}
}

// P11.3: ranges within a range whose body skips: each has the place where it began.
func TestRangesBegunAtSeveralPlaces(t *testing.T) {
	data := strings.Repeat("ab", 60)
	p := newPair(t, data, 4096)
	p.skip(t, 40)
	seq := p.f.Matches(50)
	want := p.u.matches(50)
	outer := []api.Match{}
	for m := range seq {
		outer = append(outer, m)
		p.skip(t, min(1, p.left()))
		inside := p.u.matches(50)
		inner := []api.Match{}
		for k := range seq {
			inner = append(inner, k)
			p.skip(t, min(1, p.left()))
		}
		if !slices.Equal(inner, inside) {
			t.Fatalf("the range within, begun with %d matches: %v", len(inside), inner)
		}
	}
	if len(want) != 20 || !slices.Equal(outer, want) {
		t.Errorf("the range around: %v, want %v", outer, want)
	}
}

// P11.3: two iterators of one finder keep each its own number of bytes.
func TestEachRangeItsMost(t *testing.T) {
	f := standing(t, strings.Repeat("a", 100), 2, 10)
	short, long, none := f.Matches(3), f.Matches(273), f.Matches(2)
	for range 2 {
		if got := slices.Collect(short); !slices.Equal(got, []api.Match{{Len: 3, Dist: 1}, {Len: 3, Dist: 2}}) {
			t.Errorf("of 3 bytes: %v", got)
		}
		if got := slices.Collect(long); !slices.Equal(got, []api.Match{{Len: 90, Dist: 1}, {Len: 90, Dist: 2}}) {
			t.Errorf("of 273 bytes: %v", got)
		}
		if got := slices.Collect(none); len(got) != 0 {
			t.Errorf("of 2 bytes: %v", got)
		}
	}
}
