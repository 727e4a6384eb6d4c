package finder_test

import (
	"bytes"
	"runtime"
	"strings"
	"testing"

	"pith/api"
	"pith/finder"
)

// The chapter's examples, in their order.
func TestExamples(t *testing.T) {
	f := made(t, "abcabcabcd", 4096)
	wantBest(t, f, 273, 0, 0)
	skip(t, f, 3)
	wantBest(t, f, 273, 6, 3)
	wantBest(t, f, 4, 4, 3)
	wantBest(t, f, 2, 0, 0)
	wantBest(t, f, -1, 0, 0)
	wantBest(t, f, 1000, 6, 3)
	skip(t, f, 3)
	wantMatches(t, f, 273, api.Match{Len: 3, Dist: 3}, api.Match{Len: 3, Dist: 6})
	wantBest(t, f, 273, 3, 3)
	skip(t, f, 2)
	wantBest(t, f, 273, 0, 0)
	wantNoSkip(t, f, 3)
	wantNoSkip(t, f, -1)
	skip(t, f, 2)
	if f.Pos() != 10 {
		t.Errorf("Pos is %d, want 10", f.Pos())
	}
	wantNoNew(t, "abcabcabcd", 0)
	wantNoNew(t, "abcabcabcd", 4294967296)
}

// The chapter's examples behind the table.
func TestFurtherExamples(t *testing.T) {
	wantMatches(t, standing(t, "abcabcabcd", 5, 6), 273, api.Match{Len: 3, Dist: 3})
	f := standing(t, strings.Repeat("a", 100), 4096, 50)
	want := []api.Match{}
	for k := range 32 {
		want = append(want, api.Match{Len: 50, Dist: k + 1})
	}
	wantMatches(t, f, 273, want...)
	wantBest(t, f, 273, 50, 1)
}

func wantNoNew(t *testing.T, data string, dict int) {
	t.Helper()
	if f, errno := finder.New([]byte(data), dict); f != nil || errno != api.ErrConfig {
		t.Errorf("New of %d bytes with the dictionary %d: a finder %v, error %d; want ErrConfig", len(data), dict, f != nil, errno)
	}
}

// P11.1: what is below 1 or above MaxTold is refused, whatever the data.
func TestNewOfNoDictionary(t *testing.T) {
	for _, dict := range []int{0, -1, -2, -4096, -1 << 31, -1 << 32, -1<<32 + 1, least, least + 1, api.MaxTold + 1, api.MaxTold + 2, 1<<32 + 4096, 1 << 33, 1 << 62, greatest - 1, greatest} {
		for _, data := range []string{"", "a", "abcabcabcd"} {
			wantNoNew(t, data, dict)
		}
	}
}

// P11.1: a new finder stands at 0, with every dictionary from 1 to MaxTold, and there is no match there.
func TestNewStandsAtTheFront(t *testing.T) {
	for _, dict := range dicts {
		for _, data := range texts() {
			f := made(t, data, dict)
			if f.Pos() != 0 {
				t.Errorf("Pos is %d", f.Pos())
			}
			for _, most := range mosts {
				wantNone(t, f, most)
			}
		}
	}
}

// P11.1, P11.2: data of none, one, two and three bytes are gone through; no match is in them.
func TestFewBytes(t *testing.T) {
	for _, data := range []string{"", "a", "aa", "aaa", "abc"} {
		for _, dict := range []int{1, 4096, api.MaxTold} {
			f := made(t, data, dict)
			for k := range len(data) + 1 {
				for _, most := range mosts {
					wantNone(t, f, most)
				}
				skip(t, f, 0)
				wantNoSkip(t, f, len(data)-k+1)
				if k < len(data) {
					skip(t, f, 1)
				}
			}
		}
	}
}

// P11.3: four bytes are the fewest in which there is a match.
func TestFourBytes(t *testing.T) {
	f := made(t, "aaaa", 1)
	wantNone(t, f, 273)
	skip(t, f, 1)
	wantMatches(t, f, 273, api.Match{Len: 3, Dist: 1})
	skip(t, f, 1)
	wantNone(t, f, 273)
	skip(t, f, 2)
	wantNone(t, f, 273)
	wantNoSkip(t, f, 1)
}

// W4: nil data are data of no bytes.
func TestNilData(t *testing.T) {
	f, errno := finder.New(nil, 1)
	if f == nil || errno != api.OK {
		t.Fatal("New of nil: error", errno)
	}
	wantNone(t, f, 273)
	wantNoSkip(t, f, 1)
	skip(t, f, 0)
	if f, errno := finder.New(nil, 0); f != nil || errno != api.ErrConfig {
		t.Error("New of nil with the dictionary 0: error", errno)
	}
}

// P11.1, W3, W8: the finder has its own copy: the data written over behind New, or in the midst, change nothing; neither they nor the room around them are changed.
func TestOwnCopy(t *testing.T) {
	text := strings.Repeat("abcabd", 50)
	for _, behind := range []int{0, 1, 100, len(text)} {
		room := []byte("<<" + text + ">>")
		f, _ := finder.New(room[2:2+len(text)], 4096)
		p := &pair{f, &walk{data: text, dict: 4096}}
		p.skip(t, behind)
		p.same(t, mosts...)
		if want := []byte("<<" + text + ">>"); !bytes.Equal(room, want) {
			t.Fatal("New or Skip changed the data, or the room around them")
		}
		for i := range room {
			room[i] = 'x'
		}
		p.through(t, 2, 3, 273)
		if !bytes.Equal(room, bytes.Repeat([]byte{'x'}, len(room))) {
			t.Fatal("calls changed the data that were handed to New")
		}
	}
}

// taken: how many bytes of memory something takes in all.
func taken(call func()) uint64 {
	var before, behind runtime.MemStats
	runtime.ReadMemStats(&before)
	call()
	runtime.ReadMemStats(&behind)
	return behind.TotalAlloc - before.TotalAlloc
}

// P11.1, W7: memory is taken for the bytes that are there, not for the dictionary.
func TestMemoryIsTakenForTheBytes(t *testing.T) {
	total := 0
	few := taken(func() {
		for range 100 {
			f, _ := finder.New([]byte("abcabcabcd"), api.MaxTold)
			f.Skip(6)
			total += f.Best(273).Len
		}
	})
	if total != 300 || few > 1<<20 {
		t.Errorf("a hundred finders with a great dictionary and some bytes each took %d bytes of memory", few)
	}
}
