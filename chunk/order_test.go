package chunk_test

import (
	"math/rand"
	"testing"

	"pith/api"
	"pith/chunk"
)

const (
	end   = api.ChunkEnd
	first = api.ChunkFirst
	raw   = api.ChunkRaw
	same  = api.ChunkSame
	stat  = api.ChunkState
	props = api.ChunkProps
	all   = api.ChunkAll
)

// after: an order behind these kinds, which may follow one another.
func after(t *testing.T, kinds ...int) *chunk.Order {
	t.Helper()
	o := chunk.NewOrder()
	for _, kind := range kinds {
		if errno := o.Next(kind); errno != api.OK {
			t.Fatalf("%v: %s is refused with %d", kinds, names[kind], errno)
		}
	}
	return o
}

// P17.4: the chapter's example.
func TestOrderExample(t *testing.T) {
	o := chunk.NewOrder()
	for _, step := range []struct {
		kind  int
		errno api.Errno
	}{
		{raw, api.ErrFormat}, {same, api.ErrFormat}, {props, api.ErrFormat},
		{first, api.OK}, {same, api.ErrFormat}, {raw, api.OK}, {stat, api.ErrFormat}, {props, api.OK}, {same, api.OK},
		{first, api.OK}, {stat, api.ErrFormat}, {all, api.OK}, {stat, api.OK},
	} {
		wantNext(t, o, step.kind, step.errno, false)
	}
	wantNext(t, o, end, api.OK, true)
	wantNext(t, o, end, api.ErrFormat, true)
}

// P17.4: from each place in a row, reached in several ways, each kind: which follow, and which don't.
func TestOrderFromEachPlace(t *testing.T) {
	const yes, no = api.OK, api.ErrFormat
	for _, place := range []struct {
		rows [][]int
		want [7]api.Errno
	}{
		{[][]int{{}}, [7]api.Errno{yes, yes, no, no, no, no, yes}},
		{[][]int{{first}, {first, raw}, {first, first}, {first, raw, raw}, {all, first}, {all, first, raw}, {first, props, first}, {all, same, first, raw}}, [7]api.Errno{yes, yes, yes, no, no, yes, yes}},
		{[][]int{{all}, {all, all}, {all, raw}, {all, same}, {all, stat}, {all, props}, {first, props}, {first, raw, props}, {first, all}, {first, props, raw}, {all, first, all}, {all, first, props, raw, same, stat}}, [7]api.Errno{yes, yes, yes, yes, yes, yes, yes}},
		{[][]int{{end}, {first, end}, {all, end}, {first, raw, props, same, end}}, [7]api.Errno{no, no, no, no, no, no, no}},
	} {
		for _, row := range place.rows {
			for kind, want := range place.want {
				o := after(t, row...)
				was := o.Ended()
				wantNext(t, o, kind, want, was || kind == end)
			}
			for _, kind := range noKinds {
				o := after(t, row...)
				wantNext(t, o, kind, api.ErrConfig, o.Ended())
			}
		}
	}
}

// P17.4: a row may be the end alone; behind the end nothing follows, and what is no kind is still ErrConfig.
func TestOrderOfTheEndAlone(t *testing.T) {
	o := chunk.NewOrder()
	if o.Ended() {
		t.Error("a new order has ended")
	}
	wantNext(t, o, end, api.OK, true)
	for kind := end; kind <= all; kind++ {
		wantNext(t, o, kind, api.ErrFormat, true)
	}
	for _, kind := range noKinds {
		wantNext(t, o, kind, api.ErrConfig, true)
	}
}

// P17.4: two ChunkFirst, and two ChunkAll, come one behind the other.
func TestOrderOfTwoAlike(t *testing.T) {
	o := after(t, first, first)
	wantNext(t, o, same, api.ErrFormat, false)
	wantNext(t, o, all, api.OK, false)
	wantNext(t, o, all, api.OK, false)
	wantNext(t, o, same, api.OK, false)
}

// P17.4: behind a ChunkFirst that came behind properties ChunkSame and ChunkState wait for new ones.
func TestOrderBehindALaterFirst(t *testing.T) {
	for _, before := range [][]int{{all}, {first, props}, {all, same, stat, raw}} {
		o := after(t, append(append([]int{}, before...), first)...)
		wantNext(t, o, same, api.ErrFormat, false)
		wantNext(t, o, stat, api.ErrFormat, false)
		wantNext(t, o, raw, api.OK, false)
		wantNext(t, o, same, api.ErrFormat, false)
		wantNext(t, o, stat, api.ErrFormat, false)
		wantNext(t, o, props, api.OK, false)
		wantNext(t, o, raw, api.OK, false)
		wantNext(t, o, stat, api.OK, false)
		wantNext(t, o, same, api.OK, false)
	}
}

// P17.4: refused ones change nothing: with all that is refused tried ahead of each step the row goes on alike.
func TestOrderRefusedChangesNothing(t *testing.T) {
	for _, row := range [][]int{{first, raw, props, same, first, all, stat, end}, {all, raw, same, first, raw, props, end}, {end}} {
		o := chunk.NewOrder()
		words := rowByWords{}
		for _, kind := range row {
			for range 3 {
				for try := -3; try <= 9; try++ {
					look := words
					if want := look.next(try); want != api.OK {
						wantNext(t, o, try, want, words.ended)
					}
				}
			}
			wantNext(t, o, kind, words.next(kind), words.ended)
		}
	}
}

// P17.4: all rows of up to six kinds: what the words say.
func TestOrderOfAllShortRows(t *testing.T) {
	rows := 1
	for range 6 {
		rows *= 7
	}
	for row := range rows {
		o := chunk.NewOrder()
		words := rowByWords{}
		for i, rest := 0, row; i < 6; i, rest = i+1, rest/7 {
			want := words.next(rest % 7)
			if errno := o.Next(rest % 7); errno != want || o.Ended() != words.ended {
				t.Fatalf("row %d, step %d, %s: error %d, ended %v; want error %d, %v", row, i, names[rest%7], errno, o.Ended(), want, words.ended)
			}
		}
	}
}

// P17.4, P17.6: two orders in turns, by long rows of chance: each goes its own way.
func TestTwoOrdersInTurns(t *testing.T) {
	r := rand.New(rand.NewSource(1741))
	var orders [2]*chunk.Order
	var words [2]rowByWords
	for step := range 200000 {
		i := r.Intn(2)
		if orders[i] == nil || words[i].ended && r.Intn(4) == 0 {
			orders[i], words[i] = chunk.NewOrder(), rowByWords{}
		}
		kind := r.Intn(8) - 1 + r.Intn(2)
		if kind == end && r.Intn(8) > 0 {
			kind = raw
		}
		if errno, want := orders[i].Next(kind), words[i].next(kind); errno != want {
			t.Fatalf("step %d, order %d, kind %d: error %d, want %d", step, i, kind, errno, want)
		}
		for j, o := range orders {
			if o != nil && o.Ended() != words[j].ended {
				t.Fatalf("step %d, order %d: ended %v", step, j, o.Ended())
			}
		}
	}
}
