package state_test

import (
	"math/rand"
	"slices"
	"sync"
	"testing"

	"pith/api"
	"pith/state"
)

// everyEdge: all numbers of the tests, each once.
func everyEdge() []int {
	all := slices.Concat(kinds, noKinds, noNums, distances, noDistances, lengths, noLengths, noReps, []int{0, 6, 7, 8, 10, 11, 62, 63, 64, 65})
	slices.Sort(all)
	return slices.Compact(all)
}

// P12.8: no call panics, at all edges; of each it is answered what the words say.
func TestEveryCallEnds(t *testing.T) {
	for _, x := range everyEdge() {
		slot, errno := state.Slot(x)
		if inside := x >= 1 && x <= api.MaxTold; inside != (errno == api.OK) || slot < 0 || slot > 63 {
			t.Errorf("Slot(%d): %d, error %d", x, slot, errno)
		}
		low, bits, errno := state.Range(x)
		if inside := x >= 0 && x <= 63; inside != (errno == api.OK) || inside != (low >= 1) || bits < 0 || bits > 30 {
			t.Errorf("Range(%d): %d, %d, error %d", x, low, bits, errno)
		}
		if _, errno := state.ByteProps(x); (errno == api.ErrRange) != (x < 0 || x > 255) {
			t.Errorf("ByteProps(%d): error %d", x, errno)
		}
		if (state.State{Num: x}).Literal() != (x >= 0 && x <= 6) {
			t.Errorf("Literal at %d", x)
		}
	}
}

// P12.8, P12.2: Next at all edges, each number of the symbol and of the state by chance among them, answers what the words say.
func TestNextAtAllEdges(t *testing.T) {
	r := rand.New(rand.NewSource(1281))
	edges := everyEdge()
	pick := func(lists ...[]int) int {
		list := lists[r.Intn(len(lists))]
		return list[r.Intn(len(list))]
	}
	counts := map[api.Errno]int{}
	for range 300000 {
		s := with(r.Intn(12))
		if r.Intn(4) == 0 {
			s.Num = pick(edges)
		}
		for i := range s.Reps {
			s.Reps[i] = pick(distances, distances, distances, distances, distances)
			if r.Intn(20) == 0 {
				s.Reps[i] = pick(edges, noDistances)
			}
		}
		y := api.Symbol{Kind: pick(kinds, kinds, kinds, edges), Byte: byte(r.Intn(256)), Len: pick(edges, lengths, lengths), Dist: pick(edges, distances, []int{0, 1, 2, 3})}
		want, wantErr := told(s, y)
		if n, errno := s.Next(y); n != want || errno != wantErr {
			t.Fatalf("%+v behind %+v: %+v, error %d; want %+v, error %d", y, s, n, errno, want, wantErr)
		}
		counts[wantErr]++
	}
	if counts[api.OK] < 10000 || counts[api.ErrConfig] < 10000 || counts[api.ErrRange] < 10000 {
		t.Errorf("the answers were %v", counts)
	}
}

// W2: the calls hang on their arguments alone, however goroutines run.
func TestManyAtOnce(t *testing.T) {
	var group sync.WaitGroup
	for k := range 8 {
		group.Go(func() {
			r := rand.New(rand.NewSource(int64(1282 + k)))
			s := state.New()
			for range 3000 {
				y := chanceSymbol(r)
				want, _ := told(s, y)
				next, errno := s.Next(y)
				d := 1 + r.Intn(api.MaxTold)
				slot, _ := state.Slot(d)
				b := r.Intn(256)
				p, _ := state.ByteProps(b)
				if next != want || errno != api.OK || slot != slotTold(d) || p != (api.Props{}) && 45*p.PB+9*p.LP+p.LC != b {
					t.Errorf("the goroutine %d: %+v, error %d; the slot of %d is %d; of the byte %d: %+v", k, next, errno, d, slot, b, p)
					return
				}
				s = next
			}
		})
	}
	group.Wait()
}

// P12.8: no call takes memory.
func TestNoMemoryIsTaken(t *testing.T) {
	s, total := with(5), 0
	for name, call := range map[string]func(){
		"Next": func() {
			for _, y := range [...]api.Symbol{lit(1), match(5, 9), rep(2, 3), short(), {}} {
				n, errno := s.Next(y)
				total += n.Num + int(errno)
			}
		},
		"the slots": func() {
			slot, _ := state.Slot(12345)
			low, bits, _ := state.Range(slot)
			total += low + bits
		},
		"the properties": func() {
			b, _ := state.PropsByte(api.Props{LC: 3, PB: 2})
			p, _ := state.ByteProps(b)
			total += p.LC
		},
	} {
		if n := testing.AllocsPerRun(50, call); n > 0 {
			t.Errorf("%s: memory is taken %v times", name, n)
		}
	}
}
