package delta_test

import (
	"bytes"
	"math/rand"
	"sync"
	"testing"

	"pith/api"
	"pith/delta"
)

// inRoom: n bytes with others ahead of them and room behind them; and the room, whole.
func inRoom(n int) (list, room []byte) {
	room = count(n + 400)
	return room[200 : 200+n], room
}

// P19.6, W3: what is handed in is as it was afterwards, with the room behind it, with an error too.
func TestNothingIsChanged(t *testing.T) {
	for _, n := range []int{0, 1, 2, 255, 256, 257, 513, 1000} {
		list, room := inRoom(n)
		for _, d := range []int{-1, 0, 1, 2, 255, 256, 257} {
			for _, w := range ways {
				w.whole(list, d)
				if d < 1 || d > 256 {
					continue
				}
				f := made(t, d, w.back)
				for range 3 {
					f.Next(list)
				}
			}
		}
		if !bytes.Equal(room, count(n+400)) {
			t.Errorf("%d bytes that were handed in, or those around them, are others now", n)
		}
	}
}

// P19.6, W3: nothing that is handed in is kept: what the caller does to it later is not seen.
func TestNothingIsKept(t *testing.T) {
	r := rand.New(rand.NewSource(1961))
	for _, d := range edges {
		for _, w := range ways {
			for _, size := range []int{1, 2, 100, 255, 256, 257, 600} {
				b := chanceBytes(r, 4*size+3)
				want := w.words(b, d)
				f := made(t, d, w.back)
				piece := make([]byte, size, size+300)
				for from := 0; from < len(b); from += size {
					to := min(from+size, len(b))
					n := copy(piece, b[from:to])
					wantNext(t, f, piece[:n], want[from:to])
					spoil(piece)
				}
			}
		}
	}
}

// P19.6, W3: answers are new memory: each is written over and lengthened at once, and no later answer shows it.
func TestAnswersAreWrittenOver(t *testing.T) {
	r := rand.New(rand.NewSource(1966))
	for _, d := range edges {
		for _, w := range ways {
			f, b := made(t, d, w.back), chanceBytes(r, 3000)
			want := w.words(b, d)
			for from := 0; from < len(b); {
				to := min(from+[]int{0, 1, 5, 255, 256, 257}[r.Intn(6)], len(b))
				got := f.Next(b[from:to])
				if !bytes.Equal(got, want[from:to]) {
					t.Fatalf("%s, distance %d: other bytes from %d to %d", w.name, d, from, to)
				}
				spoil(got)
				_ = append(got, 1, 2, 3)
				from = to
			}
			if again := w.words(b, d); !bytes.Equal(again, want) {
				t.Fatalf("%s, distance %d: what was handed in has changed", w.name, d)
			}
		}
	}
}

// P19.6, W3: likewise behind the next call: an answer stands as it was until then, and neither the one behind it nor what was handed in shows what is done to it, its spare room too.
func TestAnswersAreNewMemory(t *testing.T) {
	r := rand.New(rand.NewSource(1962))
	for _, d := range edges {
		for _, w := range ways {
			f, b := made(t, d, w.back), chanceBytes(r, 3000)
			want := w.words(b, d)
			kept := []byte{}
			keptFrom := 0
			for from := 0; from < len(b); {
				to := min(from+[]int{0, 1, 5, 255, 256, 257}[r.Intn(6)], len(b))
				got := f.Next(b[from:to])
				if !bytes.Equal(got, want[from:to]) {
					t.Fatalf("%s, distance %d: other bytes from %d to %d", w.name, d, from, to)
				}
				if !bytes.Equal(kept, want[keptFrom:keptFrom+len(kept)]) {
					t.Fatalf("%s, distance %d: an answer changed behind its call", w.name, d)
				}
				spoil(kept)
				kept, keptFrom, from = got, from, to
			}
			if again := w.words(b, d); !bytes.Equal(again, want) {
				t.Fatalf("%s, distance %d: what was handed in has changed", w.name, d)
			}
		}
	}
}

// P19.6, W3: likewise of Encode and Decode: an answer shares nothing with the bytes, nor with another answer; also where it is the same bytes.
func TestWholesAreNewMemory(t *testing.T) {
	for _, n := range []int{1, 2, 100, 255, 256, 257, 700} {
		for _, d := range edges {
			for _, w := range ways {
				list, room := inRoom(n)
				first, second := all(t, w, list, d), all(t, w, list, d)
				spoil(first)
				if want := w.words(count(n + 400)[200:200+n], d); !bytes.Equal(second, want) || !bytes.Equal(room, count(n+400)) {
					t.Fatalf("%s of %d bytes, distance %d: an answer shares memory", w.name, n, d)
				}
				spoil(list)
				if want := w.words(count(n + 400)[200:200+n], d); !bytes.Equal(second, want) {
					t.Fatalf("%s of %d bytes, distance %d: an answer shares what was handed in", w.name, n, d)
				}
			}
		}
	}
}

// run: a filter, and all that came to it so far and is answered.
type run struct {
	f        *delta.Filter
	way      way
	dist     int
	came, is []byte
}

// more: a piece, to a filter and into the row of what came.
func (u *run) more(b []byte) {
	u.came = append(u.came, b...)
	u.is = append(u.is, u.f.Next(b)...)
}

// P19.6, W2: filters know nothing of one another, in turns: two of one distance and direction, of both directions, and of other distances.
func TestFiltersAreApart(t *testing.T) {
	r := rand.New(rand.NewSource(1963))
	runs := []*run{}
	for _, d := range []int{1, 1, 2, 3, 100, 255, 256, 256} {
		for _, w := range ways {
			runs = append(runs, &run{f: made(t, d, w.back), way: w, dist: d})
		}
	}
	for range 2000 {
		u := runs[r.Intn(len(runs))]
		u.more(chanceBytes(r, []int{0, 1, r.Intn(9), r.Intn(500)}[r.Intn(4)]))
		all(t, u.way, u.came[max(0, len(u.came)-20):], u.dist)
		delta.New(r.Intn(300), u.way.back)
	}
	for _, u := range runs {
		if want := u.way.words(u.came, u.dist); !bytes.Equal(u.is, want) {
			t.Errorf("%s, distance %d, in turns with others: %s, want %s", u.way.name, u.dist, shown(u.is), shown(want))
		}
	}
}

// P19.6: two filters in turns, byte by byte, to which the same comes.
func TestTwoFiltersInTurns(t *testing.T) {
	b := count(900)
	for _, d := range edges {
		for _, other := range edges {
			for _, w := range ways {
				for _, v := range ways {
					f, g := made(t, d, w.back), made(t, other, v.back)
					first, second := []byte{}, []byte{}
					for i := range b {
						first = append(first, f.Next(b[i:i+1])...)
						second = append(second, g.Next(b[i:i+1])...)
					}
					if !bytes.Equal(first, w.words(b, d)) || !bytes.Equal(second, v.words(b, other)) {
						t.Errorf("%s, distance %d, in turns with %s, distance %d", w.name, d, v.name, other)
					}
				}
			}
		}
	}
}

// W2: how goroutines run is not to be seen: each has filters of its own, and all read the same bytes.
func TestManyAtOnce(t *testing.T) {
	b := chanceBytes(rand.New(rand.NewSource(1964)), 3000)
	var group sync.WaitGroup
	for k := range 8 {
		group.Go(func() {
			r := rand.New(rand.NewSource(int64(1965 + k)))
			for range 30 {
				d := 1 + r.Intn(256)
				for _, w := range ways {
					f, errno := delta.New(d, w.back)
					cut := r.Intn(len(b))
					got := append(f.Next(b[:cut]), f.Next(b[cut:])...)
					if whole, e := w.whole(b, d); !bytes.Equal(got, whole) || !bytes.Equal(got, w.words(b, d)) || errno != api.OK || e != api.OK {
						t.Errorf("%s, distance %d, while others work: errors %d, %d", w.name, d, errno, e)
						return
					}
				}
			}
		})
	}
	group.Wait()
}

// P19.6: every call ends, at all distances, with bytes of all lengths.
func TestEveryCallEnds(t *testing.T) {
	numbers := append([]int{1, 2, 3, 127, 128, 254, 255, 256}, noDistances...)
	for _, d := range numbers {
		want := api.OK
		if d < 1 || d > 256 {
			want = api.ErrConfig
		}
		for _, n := range []int{0, 1, 2, 255, 256, 257, 1 << 17} {
			for _, w := range ways {
				b := count(n)
				got, errno := w.whole(b, d)
				f, e := delta.New(d, w.back)
				if errno != want || e != want || (f != nil) != (want == api.OK) || want == api.OK && len(got) != n || want != api.OK && len(got) != 0 {
					t.Errorf("%s of %d bytes, distance %d: %d bytes, error %d; New: error %d", w.name, n, d, len(got), errno, e)
				}
				if f != nil && len(f.Next(b)) != n {
					t.Errorf("Next of %d bytes, distance %d: another number", n, d)
				}
			}
		}
	}
}

// P19.6: many bytes, in one piece and in small ones: a filter remembers no more than the last 256, and its answer is all the memory that a piece takes.
func TestLittleMemoryIsTaken(t *testing.T) {
	f, g := made(t, 256, false), made(t, 1, true)
	piece := count(1000)
	total := 0
	for _, c := range []struct {
		name string
		most float64
		call func()
	}{
		{"Next", 1, func() { total += len(f.Next(piece)) }},
		{"Next back", 1, func() { total += len(g.Next(piece)) }},
		{"Next of no bytes", 0, func() { total += len(f.Next(nil)) }},
		{"Encode", 2, func() { b, _ := delta.Encode(piece, 3); total += len(b) }},
		{"Decode", 2, func() { b, _ := delta.Decode(piece, 3); total += len(b) }},
		{"Encode that is refused", 0, func() { b, _ := delta.Encode(piece, 0); total += len(b) }},
		{"Decode that is refused", 0, func() { b, _ := delta.Decode(piece, 257); total += len(b) }},
		{"New that is refused", 0, func() { _, e := delta.New(-1, true); total += int(e) }},
	} {
		if n := testing.AllocsPerRun(50, c.call); n > c.most {
			t.Errorf("%s takes memory %v times", c.name, n)
		}
	}
}

// P19.2, P19.6: some millions of bytes, of which the ring is gone round thousands of times.
func TestManyBytes(t *testing.T) {
	b := count(1 << 22)
	for _, d := range []int{1, 255, 256} {
		for _, w := range ways {
			want := w.words(b, d)
			wantWhole(t, w, b, d, want)
			f := made(t, d, w.back)
			for from := 0; from < len(b); from += 4099 {
				to := min(from+4099, len(b))
				wantNext(t, f, b[from:to], want[from:to])
			}
		}
	}
}
