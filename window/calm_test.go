package window_test

import (
	"bytes"
	"math/rand"
	"slices"
	"sync"
	"testing"

	"pith/api"
	"pith/window"
)

// P10.8: every call ends, at all edges at once.
func TestEveryCallEnds(t *testing.T) {
	numbers := slices.Concat(noDistances, noLengths, lengths)
	for _, size := range numbers {
		w, errno := window.New(size)
		if inside := size >= 1 && size <= api.MaxTold; inside != (w != nil) || inside != (errno == api.OK) {
			t.Errorf("New(%d): a window %v, error %d", size, w != nil, errno)
		}
		if w == nil {
			continue
		}
		for _, d := range numbers {
			for _, n := range numbers {
				full := w.Full()
				_, errno := w.Copy(d, n)
				if fits := d >= 1 && d <= full && n >= 0 && n <= 273; fits != (errno == api.OK) {
					t.Errorf("Copy(%d, %d) with %d bytes: error %d", d, n, full, errno)
				}
			}
			w.Last(d)
			w.Put(byte(d), byte(d>>8))
		}
	}
}

// P10.8, W3: the list that was handed to Put stays as it was, the room behind it too, and what the caller does to it later is not seen.
func TestWhatIsHandedInIsNotKept(t *testing.T) {
	for _, size := range []int{1, 2, 9, 10, 11, 100, api.MaxTold} {
		for _, before := range []int{0, 1, 9, 10, 300} {
			for _, n := range []int{0, 1, 5, 10, 50} {
				p := newPair(t, size)
				p.put(count(before)...)
				room := count(90)
				list := room[20 : 20+n]
				p.put(list...)
				if !bytes.Equal(room, count(90)) {
					t.Fatalf("size %d: Put of %d bytes changed the list, or the room around it", size, n)
				}
				spoil(list)
				p.same(t)
				p.put(1)
				p.copy(t, 1, 20)
				p.same(t)
				want := count(90)
				spoil(want[20 : 20+n])
				if !bytes.Equal(room, want) {
					t.Fatalf("size %d: calls behind Put of %d bytes changed its list, or the room around it", size, n)
				}
			}
		}
	}
}

// P10.4, W3: what Copy answers is new memory, spare room too: written over by the caller, it changes neither the window nor another answer.
func TestAnswersAreNewMemory(t *testing.T) {
	for _, size := range []int{1, 3, 273, 300, api.MaxTold} {
		p := newPair(t, size)
		p.put(count(400)...)
		for _, d := range []int{1, 2, 3, 100, 273} {
			for _, n := range lengths {
				if d > p.u.full() {
					continue
				}
				first := copied(t, p.w, d, n)
				kept := bytes.Clone(first)
				p.u.copied(d, n)
				second := copied(t, p.w, d, n)
				p.u.copied(d, n)
				spoil(second)
				p.same(t)
				p.put(42)
				if !bytes.Equal(first, kept) {
					t.Fatal("an answer changed behind its call")
				}
				spoil(first)
				p.same(t)
			}
		}
	}
}

// P10.8, W2: windows know nothing of one another, in turns; also those of one size into which the same list was put.
func TestWindowsAreApart(t *testing.T) {
	r := rand.New(rand.NewSource(1081))
	list := chanceBytes(r, 50)
	all := []*pair{}
	for _, size := range []int{1, 10, 10, 100, 100, 1 << 31, 1 << 31} {
		p := newPair(t, size)
		p.put(list...)
		all = append(all, p)
	}
	for range 400 {
		all[r.Intn(len(all))].chance(t, r)
	}
	for _, p := range all {
		p.same(t)
	}
}

// W2: how goroutines run is not to be seen: each goes on with a fork of its own, while all ask the one that they come from.
func TestManyAtOnce(t *testing.T) {
	lead := rand.New(rand.NewSource(1082))
	parent := newPair(t, 200)
	parent.put(chanceBytes(lead, 350)...)
	want := parent.u.held()
	var group sync.WaitGroup
	for k := range 8 {
		group.Go(func() {
			r := rand.New(rand.NewSource(int64(1083 + k)))
			w, u := parent.w.Fork(), parent.u.fork()
			for range 300 {
				d, n := 1+r.Intn(200), r.Intn(274)
				got, errno := w.Copy(d, n)
				if !bytes.Equal(got, u.copied(d, n)) || errno != api.OK {
					t.Errorf("Copy(%d, %d) of a fork: error %d", d, n, errno)
					return
				}
				b := chanceBytes(r, r.Intn(20))
				w.Put(b...)
				u.all = append(u.all, b...)
				if c, errno := parent.w.Last(d); c != want[200-d] || errno != api.OK || parent.w.Pos() != 350 {
					t.Error("the one that was forked has changed")
					return
				}
			}
			if w.Pos() != len(u.all) {
				t.Errorf("Pos of a fork is %d, want %d", w.Pos(), len(u.all))
			}
		})
	}
	group.Wait()
	parent.same(t)
}

// P10.8: asking and refusing take no memory, a Put into a full window neither, a Copy its answer alone.
func TestLittleMemoryIsTaken(t *testing.T) {
	w := made(t, 1000)
	w.Put(count(1500)...)
	piece := count(700)
	total := 0
	for _, c := range []struct {
		name string
		most float64
		call func()
	}{
		{"asking", 0, func() { total += w.Size() + w.Full() + w.Pos() }},
		{"Last", 0, func() { b, _ := w.Last(1000); total += int(b) }},
		{"Last that is refused", 0, func() { _, e := w.Last(1001); total += int(e) }},
		{"Copy that is refused", 0, func() { _, e := w.Copy(1, 274); total += int(e) }},
		{"Put", 0, func() { w.Put(piece...) }},
		{"Copy", 1, func() { b, _ := w.Copy(3, 273); total += len(b) }},
		{"Fork", 2, func() { total += w.Fork().Full() }},
	} {
		if n := testing.AllocsPerRun(50, c.call); n > c.most {
			t.Errorf("%s takes memory %v times", c.name, n)
		}
	}
}

// P10.8: many bytes, in small pieces and great ones, do not make it slow: neither a Put nor a Copy goes over what came before.
func TestManyBytes(t *testing.T) {
	const size, rounds = 1 << 20, 20000
	w := made(t, size)
	piece := count(64)
	for range rounds {
		w.Put(piece...)
		w.Put(1)
		if _, errno := w.Copy(w.Full(), 273); errno != api.OK {
			t.Fatal("Copy: error", errno)
		}
	}
	wantCounts(t, w, size, size, rounds*(64+1+273))
}
