package finder_test

import (
	"math/rand"
	"slices"
	"strings"
	"testing"

	"pith/api"
	"pith/finder"
)

// The greatest and the least int.
const (
	greatest = 1<<63 - 1
	least    = -1 << 63
)

// mosts: how many bytes a match may have, the edges among them.
var mosts = []int{least, least + 1, -1 << 32, -273, -3, -2, -1, 0, 1, 2, 3, 4, 5, 6, 10, 31, 32, 33, 100, 271, 272, 273, 274, 275, 1000, 1 << 31, 1<<32 + 2, 1 << 62, greatest - 1, greatest}

// dicts: dictionaries, the edges among them.
var dicts = []int{1, 2, 3, 4, 5, 6, 7, 8, 20, 31, 32, 33, 34, 100, 272, 273, 274, 4096, 1 << 31, api.MaxTold - 1, api.MaxTold}

// walk: a finder by the words of the chapter.
type walk struct {
	data string
	dict int
	pos  int
}

// candidates: the places with the same three bytes, the nearest first.
func (u *walk) candidates() []int {
	list := []int{}
	if u.pos+3 > len(u.data) {
		return list
	}
	for q := u.pos - 1; q >= 0 && u.pos-q <= u.dict && len(list) < 32; q-- {
		if u.data[q:q+3] == u.data[u.pos:u.pos+3] {
			list = append(list, q)
		}
	}
	return list
}

// run: how many bytes from q on are the same as those of the place, at most most, at most 273.
func (u *walk) run(q, most int) int {
	k := 0
	for k < most && k < 273 && u.pos+k < len(u.data) && u.data[q+k] == u.data[u.pos+k] {
		k++
	}
	return k
}

func (u *walk) matches(most int) []api.Match {
	list := []api.Match{}
	for _, q := range u.candidates() {
		if n := u.run(q, most); n >= 3 {
			list = append(list, api.Match{Len: n, Dist: u.pos - q})
		}
	}
	return list
}

func (u *walk) best(most int) api.Match {
	best := api.Match{}
	for _, m := range u.matches(most) {
		if m.Len > best.Len {
			best = m
		}
	}
	return best
}

// made: a finder at the front.
func made(t *testing.T, data string, dict int) *finder.Finder {
	t.Helper()
	f, errno := finder.New([]byte(data), dict)
	if f == nil || errno != api.OK {
		t.Fatalf("New of %d bytes with the dictionary %d: a finder %v, error %d", len(data), dict, f != nil, errno)
	}
	return f
}

// skip: n bytes on, without an error.
func skip(t *testing.T, f *finder.Finder, n int) {
	t.Helper()
	pos := f.Pos()
	if errno := f.Skip(n); errno != api.OK || f.Pos() != pos+n {
		t.Fatalf("Skip(%d) at %d: error %d, at %d", n, pos, errno, f.Pos())
	}
}

// standing: a finder at that place.
func standing(t *testing.T, data string, dict, pos int) *finder.Finder {
	t.Helper()
	f := made(t, data, dict)
	skip(t, f, pos)
	return f
}

// gone: what a range over all matches gives.
func gone(f *finder.Finder, most int) []api.Match { return slices.Collect(f.Matches(most)) }

// wantBest: just that match.
func wantBest(t *testing.T, f *finder.Finder, most, n, dist int) {
	t.Helper()
	if m := f.Best(most); m != (api.Match{Len: n, Dist: dist}) {
		t.Errorf("Best(%d) at %d: %v, want {%d %d}", most, f.Pos(), m, n, dist)
	}
}

// wantMatches: just these, in that order.
func wantMatches(t *testing.T, f *finder.Finder, most int, want ...api.Match) {
	t.Helper()
	if got := gone(f, most); !slices.Equal(got, want) {
		t.Errorf("Matches(%d) at %d: %v, want %v", most, f.Pos(), got, want)
	}
}

// wantNone: no match at all.
func wantNone(t *testing.T, f *finder.Finder, most int) {
	t.Helper()
	wantBest(t, f, most, 0, 0)
	wantMatches(t, f, most)
}

// wantNoSkip: it is refused, and the place stays.
func wantNoSkip(t *testing.T, f *finder.Finder, n int) {
	t.Helper()
	pos := f.Pos()
	if errno := f.Skip(n); errno != api.ErrRange || f.Pos() != pos {
		t.Errorf("Skip(%d) at %d: error %d, at %d; want ErrRange", n, pos, errno, f.Pos())
	}
}

// pair: a finder, and beside it the same by the words of the chapter.
type pair struct {
	f *finder.Finder
	u *walk
}

func newPair(t *testing.T, data string, dict int) *pair {
	t.Helper()
	return &pair{made(t, data, dict), &walk{data: data, dict: dict}}
}

func (p *pair) left() int { return len(p.u.data) - p.u.pos }

// skip: both n bytes on.
func (p *pair) skip(t *testing.T, n int) {
	t.Helper()
	skip(t, p.f, n)
	p.u.pos += n
}

// same: the finder answers what the words say, of each of these numbers of bytes.
func (p *pair) same(t *testing.T, most ...int) {
	t.Helper()
	if p.f.Pos() != p.u.pos {
		t.Errorf("Pos is %d, want %d", p.f.Pos(), p.u.pos)
	}
	for _, n := range most {
		best := p.u.best(n)
		wantBest(t, p.f, n, best.Len, best.Dist)
		wantMatches(t, p.f, n, p.u.matches(n)...)
	}
	if t.Failed() {
		t.Fatalf("of %d bytes %.60q with the dictionary %d, at %d", len(p.u.data), p.u.data, p.u.dict, p.u.pos)
	}
}

// through: the same at every place, up to the end of the data.
func (p *pair) through(t *testing.T, most ...int) {
	t.Helper()
	for {
		p.same(t, most...)
		if p.left() == 0 {
			return
		}
		p.skip(t, 1)
	}
}

// chanceText: n bytes out of so many different ones, with pieces of what stands ahead repeated now and then.
func chanceText(r *rand.Rand, n, kinds int) string {
	b := []byte{}
	for len(b) < n {
		if len(b) > 0 && r.Intn(8) == 0 {
			from, more := r.Intn(len(b)), r.Intn(40)
			for k := range more {
				b = append(b, b[from+k])
			}
		}
		b = append(b, byte(r.Intn(kinds)))
	}
	return string(b[:n])
}

// texts: data of several kinds: none, few bytes, all equal, repeating by 1 to 5 bytes, of chance.
func texts() []string {
	list := []string{"", "a", "ab", "aa", "abc", "aaa", "aaaa", "aaaaa", "abcabc", "abcab", "\x00\x00\x00\x00", "\xff\xff\xff\xff\xff", strings.Repeat("\xff\x00", 40)}
	for n := 1; n <= 5; n++ {
		list = append(list, strings.Repeat("abcde"[:n], 330/n))
	}
	r := rand.New(rand.NewSource(1100))
	for _, kinds := range []int{1, 2, 3, 4, 26, 256} {
		list = append(list, chanceText(r, 400, kinds))
	}
	return list
}
