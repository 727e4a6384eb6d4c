package parse_test

import (
	"bytes"
	"math/rand"
	"runtime"
	"slices"
	"strings"
	"sync"
	"testing"

	"pith/api"
	"pith/parse"
	"pith/state"
)

// P16.10, P16.1: no call panics, at all numbers; each answers what the words say.
func TestEveryCallEnds(t *testing.T) {
	r := rand.New(rand.NewSource(16101))
	edges := slices.Concat(noLengths, noDistances, noDicts, []int{1, 2, 3, 4, 5, 11, 12, api.MaxTold})
	pick := func(usual ...int) int {
		if r.Intn(6) == 0 {
			return edges[r.Intn(len(edges))]
		}
		return usual[r.Intn(len(usual))]
	}
	counts := map[api.Errno]int{}
	for range 20000 {
		v := view{chanceText(r, r.Intn(20), 2), pick(0, 0, 1, 2, 5), pick(5, 10, 12, 19), pick(1, 3, 9, 4096)}
		s := with(pick(0, 4, 11), pick(1, 2), pick(3, 4), pick(1, 5, 9), pick(2, 12))
		_, bad := s.Next(lit(0))
		want, ofPlan := api.OK, api.OK
		switch {
		case v.from < 0 || v.to < v.from || v.to > len(v.data):
			want, ofPlan = api.ErrRange, api.ErrRange
		case v.dict < 1 || v.dict > api.MaxTold:
			want, ofPlan = api.ErrConfig, api.ErrConfig
		case bad != api.OK:
			want = api.ErrRange
		}
		counts[want]++
		if want == api.OK {
			wantAll(t, v, s)
		} else {
			wantError(t, []byte(v.data), v.from, v.to, v.dict, s, want, ofPlan)
		}
		parse.Price(api.Symbol{Kind: pick(1, 2, 3, 4), Len: pick(2, 9, 273), Dist: pick(0, 3, 9)})
	}
	if counts[api.OK] < 1000 || counts[api.ErrConfig] < 500 || counts[api.ErrRange] < 1000 {
		t.Errorf("the answers were %v", counts)
	}
}

// asked: the answers of all three calls.
type asked struct {
	greedy, plan, cheap []api.Symbol
	first, second       state.State
}

func ask(t *testing.T, data []byte, from, to, dict int, s state.State) asked {
	t.Helper()
	var a asked
	var errnos [3]api.Errno
	a.greedy, a.first, errnos[0] = parse.Greedy(data, from, to, dict, s)
	a.plan, errnos[1] = parse.Plan(data, from, to, dict)
	a.cheap, a.second, errnos[2] = parse.Cheap(data, from, to, dict, s)
	if errnos != [3]api.Errno{} {
		t.Fatalf("errors %v", errnos)
	}
	return a
}

func (a asked) clone() asked {
	a.greedy, a.plan, a.cheap = slices.Clone(a.greedy), slices.Clone(a.plan), slices.Clone(a.cheap)
	return a
}

func (a asked) same(b asked) bool {
	return slices.Equal(a.greedy, b.greedy) && slices.Equal(a.plan, b.plan) && slices.Equal(a.cheap, b.cheap) && a.first == b.first && a.second == b.second
}

// spoil: writes over all answers, and over the room behind them; lengthens them.
func (a asked) spoil() {
	for _, l := range [][]api.Symbol{a.greedy, a.plan, a.cheap} {
		for i := range l[:cap(l)] {
			l[:cap(l)][i] = api.Symbol{Kind: 99, Byte: 99, Len: 99, Dist: 99}
		}
		_ = append(l, api.Symbol{Kind: 98})
	}
}

// P16.10, W3: the data stay as they were, with the room behind and ahead of them; written over behind the call they are not seen in the answers.
func TestDataHandedInStay(t *testing.T) {
	r := rand.New(rand.NewSource(16102))
	for range 100 {
		room := []byte(chanceText(r, 300, 3))
		kept := bytes.Clone(room)
		data := room[20 : 20+r.Intn(200)]
		from := r.Intn(len(data) + 1)
		to := from + r.Intn(len(data)-from+1)
		s := chanceState(r, 30)
		first := ask(t, data, from, to, 1+r.Intn(300), s)
		if !bytes.Equal(room, kept) {
			t.Fatal("the data have changed, or the room around them")
		}
		held := first.clone()
		for i := range room {
			room[i] ^= 0xA5
		}
		if !first.same(held) {
			t.Fatal("a change of the data is seen in the answers")
		}
	}
}

// P16.10, W3: also where they are refused the data stay.
func TestDataOfRefusedCallsStay(t *testing.T) {
	room := []byte(strings.Repeat("abc", 20))
	kept := bytes.Clone(room)
	for _, to := range []int{-1, 10, 31, 61} {
		for _, dict := range []int{0, 9} {
			parse.Greedy(room[:30], 3, to, dict, state.State{})
			parse.Plan(room[:30], 3, to, dict)
			parse.Cheap(room[:30], 3, to, dict, state.State{})
		}
	}
	if !bytes.Equal(room, kept) {
		t.Error("the data have changed, or the room behind them")
	}
}

// P16.10, W3: answers are new memory: written over and lengthened, no later one shows it, nor another of the same call's.
func TestAnswersAreNewMemory(t *testing.T) {
	r := rand.New(rand.NewSource(16103))
	for range 100 {
		data := []byte(chanceText(r, 200, 2))
		s := chanceState(r, 20)
		first, second := ask(t, data, 50, 200, 100, s), ask(t, data, 50, 200, 100, s)
		held := first.clone()
		second.spoil()
		if third := ask(t, data, 50, 200, 100, s); !first.same(held) || !third.same(held) {
			t.Fatal("a change of one answer is seen in another")
		}
	}
}

// P16.10, W3: the list that Prices is handed stays as it was, with the room behind it.
func TestSymbolsHandedInStay(t *testing.T) {
	room := []api.Symbol{lit(1), match(5, 9), short(), rep(3, 1), {}, match(1, 1), lit(2)}
	kept := slices.Clone(room)
	for n := range len(room) + 1 {
		first, errno := parse.Prices(room[:n]...)
		again, second := parse.Prices(room[:n]...)
		if !slices.Equal(room, kept) || first != again || errno != second {
			t.Fatalf("Prices of %d: %d, error %d, then %d, error %d", n, first, errno, again, second)
		}
	}
}

// W2: the same again, in any order of calls, in any of several goroutines that share the data.
func TestManyAtOnce(t *testing.T) {
	data := []byte(chanceText(rand.New(rand.NewSource(16104)), 800, 3))
	want := make([]asked, 8)
	for k := range want {
		want[k] = ask(t, data, 100*k, 800, 100+k, with(k, k+1))
	}
	var group sync.WaitGroup
	for k := range 8 {
		group.Go(func() {
			for i := range 8 {
				n := (i + k) % 8
				greedy, first, _ := parse.Greedy(data, 100*n, 800, 100+n, with(n, n+1))
				plan, _ := parse.Plan(data, 100*n, 800, 100+n)
				cheap, second, _ := parse.Cheap(data, 100*n, 800, 100+n, with(n, n+1))
				if !(asked{greedy, plan, cheap, first, second}).same(want[n]) {
					t.Errorf("the goroutine %d, the piece %d", k, n)
					return
				}
			}
		})
	}
	group.Wait()
}

// P16.10: long data do not make it slow, by any of the three: equal bytes, such as hardly repeat, such as repeat with gaps.
func TestLongData(t *testing.T) {
	r := rand.New(rand.NewSource(16105))
	gaps := strings.Builder{}
	for gaps.Len() < 1<<16 {
		gaps.WriteString(strings.Repeat("a", 250+r.Intn(30)))
		gaps.WriteByte(byte(r.Intn(256)))
	}
	for _, data := range []string{strings.Repeat("a", 1<<17), count(1 << 17), gaps.String()} {
		wantTheyMean(t, view{data, 0, len(data), 1 << 20}, state.New())
	}
}

// taken: how many bytes of memory a call takes.
func taken(call func()) uint64 {
	var before, behind runtime.MemStats
	runtime.ReadMemStats(&before)
	call()
	runtime.ReadMemStats(&behind)
	return behind.TotalAlloc - before.TotalAlloc
}

// P16.10: a small piece of great data takes memory for itself and its dictionary, not for all data.
func TestSmallPiecesOfGreatData(t *testing.T) {
	data := []byte(count(8 << 20))
	for _, from := range []int{0, 4 << 20, 8<<20 - 100} {
		if n := taken(func() { ask(t, data, from, from+100, 4096, state.New()) }); n > 4<<20 {
			t.Errorf("from %d: %d bytes of memory", from, n)
		}
	}
}
