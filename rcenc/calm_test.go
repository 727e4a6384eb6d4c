package rcenc_test

import (
	"bytes"
	"math/rand"
	"slices"
	"sync"
	"testing"

	"pith/api"
	"pith/rcenc"
)

// P7.7: every call ends, at all edges at once.
func TestEveryCallEnds(t *testing.T) {
	numbers := slices.Concat(outside, noCounts, ones, []int{0, 1, 2, 31, 32})
	for _, n := range []int{0, 1, 3} {
		e, s := begun(t), made(t, n)
		for _, i := range numbers {
			for _, bit := range numbers {
				want := api.ErrRange
				if i >= 0 && i < n {
					want = api.OK
				}
				if errno := e.Bit(s, i, bit); errno != want {
					t.Errorf("Bit(s, %d, %d) with %d numbers: error %d, want %d", i, bit, n, errno, want)
				}
			}
			for _, v := range []uint32{0, 1, 1 << 31, 1<<32 - 1} {
				want := api.ErrRange
				if i >= 0 && i <= 32 {
					want = api.OK
				}
				if errno := e.Direct(v, i); errno != want {
					t.Errorf("Direct(%d, %d): error %d, want %d", v, i, errno, want)
				}
			}
			if e.Size() != len(e.Bytes()) || e.Fork().Size() != e.Size() {
				t.Errorf("Size is %d, of %d bytes", e.Size(), len(e.Bytes()))
			}
		}
	}
}

// P7.7, W2: two encoders know nothing of one another, in turns.
func TestEncodersAreApart(t *testing.T) {
	r := rand.New(rand.NewSource(771))
	all := []*pair{newPair(t, 1), newPair(t, 2), newPair(t, 0)}
	for range 300 {
		all[r.Intn(3)].chance(t, r)
		for _, p := range all {
			p.same(t)
		}
	}
	wantBytes(t, begun(t), 0, 0, 0, 0, 0)
}

// W2: how goroutines run is not to be seen: each goes on with a fork of its own, while all ask the one that they come from.
func TestManyAtOnce(t *testing.T) {
	parent := newPair(t, 3)
	lead := rand.New(rand.NewSource(772))
	for range 100 {
		parent.chance(t, lead)
	}
	want := parent.u.bytes()
	var group sync.WaitGroup
	for k := range 8 {
		group.Go(func() {
			r := rand.New(rand.NewSource(int64(773 + k)))
			e, s, u := parent.e.Fork(), parent.s.Fork(), parent.u.fork()
			for range 500 {
				i, bit, v, n := r.Intn(3), chanceBit(r), r.Uint32(), r.Intn(33)
				e.Bit(s, i, bit)
				e.Direct(v, n)
				u.bit(i, bit)
				u.direct(v, n)
				if parent.e.Size() != len(want) || !bytes.Equal(parent.e.Bytes(), want) {
					t.Error("the one that was forked has changed")
				}
			}
			if !bytes.Equal(e.Bytes(), u.bytes()) || e.Size() != u.shifts+5 {
				t.Error("a fork came to other bytes")
			}
		})
	}
	group.Wait()
	parent.same(t)
}

// P7.7: asking for the bytes takes one piece of memory, for the size none, and what is refused none.
func TestLittleMemoryIsTaken(t *testing.T) {
	e, s := rcenc.New(), made(t, 1)
	for k := range 1000 {
		direct(t, e, uint32(k), 32)
	}
	total := 0
	for _, c := range []struct {
		name string
		most float64
		call func()
	}{
		{"Size", 0, func() { total += e.Size() }},
		{"Bytes", 1, func() { total += len(e.Bytes()) }},
		{"Fork", 2, func() { total += e.Fork().Size() }},
		{"Bit", 0, func() { total += int(e.Bit(s, 1, 1)) }},
		{"Direct", 0, func() { total += int(e.Direct(1, 33)) }},
	} {
		if n := testing.AllocsPerRun(50, c.call); n > c.most {
			t.Errorf("%s takes memory %v times", c.name, n)
		}
	}
}

// P7.7: a long row of bits, with long runs of FF, is coded without going over it again and again.
func TestLongRows(t *testing.T) {
	e := begun(t)
	for range 1 << 17 {
		direct(t, e, 1<<32-1, 32)
	}
	b := e.Bytes()
	if len(b) != 1<<19+5 || e.Size() != len(b) {
		t.Fatalf("%d bytes, size %d", len(b), e.Size())
	}
	if b[0] != 0 || b[1] != 0xFF || b[2] != 0xFF || b[3] != 0xFF || b[4] != 0xF6 || !bytes.Equal(b[5:20], bytes.Repeat([]byte{0xFF}, 15)) {
		t.Errorf("it begins with % X", b[:20])
	}
}
