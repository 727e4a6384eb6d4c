package parse_test

import (
	"math/rand"
	"strings"
	"testing"

	"pith/api"
	"pith/parse"
	"pith/state"
	"pith/symbol"
	"pith/window"
)

// wantMeant: the symbols, applied behind s to a window of the dictionary into which all ahead of the piece has come, make the piece; the state behind them.
func wantMeant(t *testing.T, v view, s state.State, l []api.Symbol) state.State {
	t.Helper()
	w, errno := window.New(v.dict)
	if errno != api.OK {
		t.Fatalf("a window of %d: error %d", v.dict, errno)
	}
	w.Put([]byte(v.data[:v.from])...)
	made := []byte{}
	for i, y := range l {
		b, next, errno := symbol.Apply(w, s, y)
		if errno != api.OK {
			t.Fatalf("number %d of %s, behind %+v: error %d", i, shown(l), s, errno)
		}
		made, s = append(made, b...), next
	}
	if string(made) != v.data[v.from:v.to] {
		t.Fatalf("%s make %.60q, want %.60q", shown(l), made, v.data[v.from:v.to])
	}
	return s
}

// wantTheyMean: those of all three.
func wantTheyMean(t *testing.T, v view, s state.State) {
	t.Helper()
	data := []byte(v.data)
	greedy, behind, errno := parse.Greedy(data, v.from, v.to, v.dict, s)
	if errno != api.OK {
		t.Fatalf("Greedy: error %d", errno)
	}
	if left := wantMeant(t, v, s, greedy); left != behind {
		t.Fatalf("Greedy: the state is %+v, want %+v", behind, left)
	}
	cheap, behind, errno := parse.Cheap(data, v.from, v.to, v.dict, s)
	if errno != api.OK {
		t.Fatalf("Cheap: error %d", errno)
	}
	if left := wantMeant(t, v, s, cheap); left != behind {
		t.Fatalf("Cheap: the state is %+v, want %+v", behind, left)
	}
	plan, errno := parse.Plan(data, v.from, v.to, v.dict)
	if errno != api.OK {
		t.Fatalf("Plan: error %d", errno)
	}
	wantMeant(t, v, s, plan)
	wantMeant(t, v, state.New(), plan)
}

// P16.6: of data, pieces, dictionaries and states of chance.
func TestTheyMeanTheData(t *testing.T) {
	r := rand.New(rand.NewSource(1661))
	for i := range 1500 {
		v := chanceView(r, 1+r.Intn(600), 1+i%6)
		wantTheyMean(t, v, chanceState(r, 1+r.Intn(100)))
	}
}

// P16.6: of long data, with each number of the state; equal, periodic, counted, of chance.
func TestTheyMeanLongData(t *testing.T) {
	r := rand.New(rand.NewSource(1662))
	const n = 40000
	for i, data := range []string{
		strings.Repeat("a", n), strings.Repeat("ab", n/2), strings.Repeat("abcdefg", n/7+1)[:n], count(n), chanceText(r, n, 2), chanceText(r, n, 4), chanceText(r, n, 26), chanceText(r, n, 150),
	} {
		s := chanceState(r, 50)
		s.Num = i
		wantTheyMean(t, view{data, 0, n, []int{1, 100, 4096, n, api.MaxTold}[i%5]}, s)
		wantTheyMean(t, view{data, n / 2, n, []int{4096, 1, 100, api.MaxTold, n}[i%5]}, with(i+4, 5, 9, 2, 70))
	}
}

// P16.6: piece by piece, each behind the state of the one before, they mean all the data.
func TestPieceByPiece(t *testing.T) {
	r := rand.New(rand.NewSource(1663))
	for i := range 60 {
		data := chanceText(r, 500+r.Intn(2000), 1+i%5)
		dict := 1 + r.Intn(1000)
		var greedy, cheap []api.Symbol
		s, u := state.New(), state.New()
		for from := 0; from < len(data); {
			to := min(len(data), from+1+r.Intn(400))
			l, next, _ := parse.Greedy([]byte(data), from, to, dict, s)
			m, other, _ := parse.Cheap([]byte(data), from, to, dict, u)
			greedy, cheap = append(greedy, l...), append(cheap, m...)
			s, u, from = next, other, to
		}
		for _, l := range [][]api.Symbol{greedy, cheap} {
			if b, _, errno := symbol.Expand(dict, l...); string(b) != data || errno != api.OK {
				t.Fatalf("%d bytes, error %d", len(b), errno)
			}
		}
	}
}
