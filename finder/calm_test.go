package finder_test

import (
	"math/rand"
	"slices"
	"strings"
	"sync"
	"testing"

	"pith/api"
	"pith/finder"
)

// P11.7: every call ends, at all edges at once.
func TestEveryCallEnds(t *testing.T) {
	numbers := slices.Concat(mosts, dicts, []int{api.MaxTold + 1})
	for _, data := range []string{"", "a", "aa", "aaa", "aaaa", strings.Repeat("abc", 20)} {
		for _, dict := range numbers {
			f, errno := finder.New([]byte(data), dict)
			if inside := dict >= 1 && dict <= api.MaxTold; inside != (f != nil) || inside != (errno == api.OK) {
				t.Errorf("New with the dictionary %d: a finder %v, error %d", dict, f != nil, errno)
			}
			if f == nil {
				continue
			}
			for _, n := range numbers {
				pos := f.Pos()
				errno := f.Skip(n)
				if fits := n >= 0 && n <= len(data)-pos; fits != (errno == api.OK) {
					t.Errorf("Skip(%d) at %d of %d: error %d", n, pos, len(data), errno)
				}
				f.Best(n)
				gone(f, n)
			}
		}
	}
}

// P11.7: Best and Matches change nothing: asked never, once or often, the finder goes on alike.
func TestAskingChangesNothing(t *testing.T) {
	for _, data := range texts() {
		asked, silent := newPair(t, data, 100), newPair(t, data, 100)
		for asked.left() > 0 {
			for _, most := range mosts {
				asked.f.Best(most)
				firstOf(asked.f.Matches(most), 2)
				asked.f.Matches(most)
			}
			n := min(7, asked.left())
			asked.skip(t, n)
			silent.skip(t, n)
			asked.same(t, 273)
		}
		silent.same(t, 273)
	}
}

// P11.7, W2: finders know nothing of one another, in turns; those of the same data too, with one dictionary or unlike ones.
func TestFindersAreApart(t *testing.T) {
	r := rand.New(rand.NewSource(1171))
	data := chanceText(r, 1000, 3)
	all := []*pair{}
	for _, dict := range []int{1, 50, 50, 50, 1000, api.MaxTold} {
		all = append(all, newPair(t, data, dict), newPair(t, data[500:]+data[:500], dict))
	}
	for range 1500 {
		p := all[r.Intn(len(all))]
		p.skip(t, r.Intn(min(20, p.left())+1))
		p.same(t, 273)
	}
	for _, p := range all {
		p.through(t, 273)
	}
}

// P11.7, W2: ranges of two finders of the same data within one another.
func TestRangesOfTwoFinders(t *testing.T) {
	data := strings.Repeat("abcd", 30)
	f, g := standing(t, data, 4096, 40), standing(t, data, 4096, 80)
	wantF, wantG := gone(f, 273), gone(g, 273)
	outer := []api.Match{}
	for m := range f.Matches(273) {
		outer = append(outer, m)
		if inner := gone(g, 273); !slices.Equal(inner, wantG) {
			t.Errorf("the range within: %v", inner)
		}
	}
	if !slices.Equal(outer, wantF) || len(wantF) != 10 || len(wantG) != 20 {
		t.Errorf("%d and %d matches; the range around: %v", len(wantF), len(wantG), outer)
	}
}

// W2: how goroutines run is not to be seen: each goes on with a finder of its own, while all ask one that stands still.
func TestManyAtOnce(t *testing.T) {
	lead := rand.New(rand.NewSource(1173))
	data := chanceText(lead, 600, 3)
	still := standing(t, data, 400, 450)
	want, best := gone(still, 273), still.Best(273)
	seq := still.Matches(273)
	var group sync.WaitGroup
	for k := range 8 {
		group.Go(func() {
			f, _ := finder.New([]byte(data), 50*(k+1))
			u := &walk{data: data, dict: 50 * (k + 1)}
			for ; u.pos < len(data); u.pos++ {
				if !slices.Equal(gone(f, 273), u.matches(273)) || f.Best(40) != u.best(40) {
					t.Errorf("the finder %d at %d", k, u.pos)
					return
				}
				if still.Best(273) != best || !slices.Equal(slices.Collect(seq), want) || still.Pos() != 450 {
					t.Error("the one that stands still has changed")
					return
				}
				f.Skip(1)
			}
		})
	}
	group.Wait()
}

// W2: the same calls to the same data give the same, whatever order a map has.
func TestTheSameAgain(t *testing.T) {
	data := chanceText(rand.New(rand.NewSource(1174)), 800, 4)
	first := []api.Match{}
	for round := range 5 {
		all := []api.Match{}
		f := made(t, data, 500)
		for f.Pos() < len(data) {
			all = append(all, f.Best(100))
			all = append(all, gone(f, 273)...)
			skip(t, f, 1)
		}
		if round == 0 {
			first = all
		}
		if !slices.Equal(all, first) {
			t.Fatal("another answer to the same calls")
		}
	}
}

// P11.7: asking and refusing take no memory, but the iterator itself.
func TestLittleMemoryIsTaken(t *testing.T) {
	f := standing(t, strings.Repeat("abcd", 500), 4096, 1000)
	total := 0
	for _, c := range []struct {
		name string
		most float64
		call func()
	}{
		{"Pos", 0, func() { total += f.Pos() }},
		{"Best", 1, func() { total += f.Best(273).Len }},
		{"Skip that is refused", 0, func() { total += int(f.Skip(-1)) + int(f.Skip(1001)) }},
		{"Matches", 2, func() {
			for m := range f.Matches(273) {
				total += m.Len
			}
		}},
	} {
		if n := testing.AllocsPerRun(50, c.call); n > c.most {
			t.Errorf("%s takes memory %v times", c.name, n)
		}
	}
}

// P11.7: many bytes do not make it slow, equal ones neither: of the places of three bytes no more are kept and gone over than are looked at.
func TestManyBytes(t *testing.T) {
	const n = 1 << 20
	data := strings.Repeat("a", n)
	f := made(t, data, api.MaxTold)
	for f.Pos() < n-3 {
		if m := f.Best(273); f.Pos() > 0 && (m.Dist != 1 || m.Len < 3) {
			t.Fatalf("at %d: %v", f.Pos(), m)
		}
		skip(t, f, min(1+f.Pos()%5, n-3-f.Pos()))
	}
	wantBest(t, f, 273, 3, 1)
}

// P11.7: a Skip over much more than the dictionary takes memory for what is still within it alone.
func TestGreatSkipsTakeLittleMemory(t *testing.T) {
	const n = 1 << 20
	f := made(t, chanceText(rand.New(rand.NewSource(1175)), n, 256), 4096)
	if b := taken(func() { skip(t, f, n) }); b > 2<<20 {
		t.Errorf("a Skip of %d bytes with a dictionary of 4096 took %d bytes of memory", n, b)
	}
}
