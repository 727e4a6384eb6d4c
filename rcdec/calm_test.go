package rcdec_test

import (
	"bytes"
	"math/rand"
	"slices"
	"sync"
	"testing"

	"pith/api"
	"pith/rcdec"
)

// P8.8: every call ends, at all edges at once, with and without bytes left.
func TestEveryCallEnds(t *testing.T) {
	numbers := slices.Concat(outside, noCounts, []int{0, 1, 2, 31, 32})
	for _, n := range []int{0, 1, 3} {
		for _, b := range [][]byte{make([]byte, 5), make([]byte, 3000), {0, 0xFF, 0xFF, 0xFF, 0xFE}, append([]byte{0}, bytes.Repeat([]byte{0xFE}, 3000)...)} {
			d, s := begun(t, b...), made(t, n)
			for _, i := range numbers {
				there := i >= 0 && i < n
				if bit, e := d.Bit(s, i); (e == api.ErrRange) == there || e != api.OK && bit != 0 {
					t.Errorf("Bit of number %d of %d: %d, error %d", i, n, bit, e)
				}
				there = i >= 0 && i <= 32
				if v, e := d.Direct(i); (e == api.ErrRange) == there || e != api.OK && v != 0 {
					t.Errorf("Direct(%d): %d, error %d", i, v, e)
				}
				if d.Used() < 5 || d.Used() > len(b) || d.Done() && d.Used() != len(b) {
					t.Errorf("Used is %d of %d, Done %v", d.Used(), len(b), d.Done())
				}
			}
		}
	}
}

// P8.8: at all bytes: any list is refused, or read to its end and just as the chapter says.
func TestAnyBytes(t *testing.T) {
	r := rand.New(rand.NewSource(881))
	met := map[api.Errno]int{}
	for range 4000 {
		b := make([]byte, r.Intn(14))
		for i := range b {
			b[i] = []byte{0, 0, 0xFF, 0xFF, 1, 0xFE, 0x80, byte(r.Intn(256))}[r.Intn(8)]
		}
		want := api.OK
		if len(b) < 5 {
			want = api.ErrTruncated
		} else if b[0] != 0 || b[1]&b[2]&b[3]&b[4] == 0xFF {
			want = api.ErrFormat
		}
		met[want]++
		if want != api.OK {
			noDecoder(t, want, b...)
			continue
		}
		newPair(t, 2, b...).drain(t, r)
	}
	if met[api.OK] < 500 || met[api.ErrFormat] < 500 || met[api.ErrTruncated] < 500 {
		t.Errorf("met: %v", met)
	}
}

// P8.8, W2: two decoders know nothing of one another, in turns, also of one list of bytes.
func TestDecodersAreApart(t *testing.T) {
	r := rand.New(rand.NewSource(882))
	for range 20 {
		one, two := chanceBytes(r, 300), chanceBytes(r, 200)
		all := []*pair{newPair(t, 1, one...), newPair(t, 2, one...), newPair(t, 0, two...), newPair(t, 3, two...)}
		for range 600 {
			all[r.Intn(4)].chance(t, r)
			for _, p := range all {
				p.same(t)
			}
		}
	}
}

// P8.8: over one set, which both are handed, each sees where the other has moved it, and nothing else.
func TestDecodersOverOneSet(t *testing.T) {
	r := rand.New(rand.NewSource(883))
	for range 50 {
		a, b := chanceBytes(r, 60), chanceBytes(r, 60)
		s, row := made(t, 2), alike(2, 1024)
		first, second := &pair{begun(t, a...), s, newTeller(a), row}, &pair{begun(t, b...), s, newTeller(b), row}
		for range 600 {
			if r.Intn(3) == 0 {
				first.chance(t, r)
			} else {
				second.chance(t, r)
			}
			first.same(t)
			second.same(t)
		}
	}
}

// P8.2: one decoder over several sets in turn.
func TestOneDecoderOverSets(t *testing.T) {
	r := rand.New(rand.NewSource(884))
	b := chanceBytes(r, 400)
	p := newPair(t, 2, b...)
	q := &pair{p.d, made(t, 3), p.u, alike(3, 1024)}
	for range 1000 {
		if r.Intn(2) == 0 {
			p.chance(t, r)
			q.u = p.u
		} else {
			q.chance(t, r)
			p.u = q.u
		}
		p.same(t)
		q.same(t)
	}
}

// W2: how goroutines run is not to be seen.
func TestManyAtOnce(t *testing.T) {
	lead := rand.New(rand.NewSource(885))
	b := chanceBytes(lead, 500)
	var group sync.WaitGroup
	for k := range 8 {
		s := made(t, 3)
		group.Go(func() {
			r := rand.New(rand.NewSource(int64(886 + k)))
			d, e := rcdec.New(b)
			if e != api.OK {
				t.Errorf("New: error %d", e)
				return
			}
			u, row := newTeller(b), alike(3, 1024)
			for range 3000 {
				i, n := r.Intn(3), r.Intn(9)
				bit, e := d.Bit(s, i)
				w, want, f := u.bit(row[i])
				if e != f || e == api.OK && bit != want {
					t.Errorf("Bit: %d, error %d; want %d, error %d", bit, e, want, f)
				}
				if f == api.OK {
					u, row[i] = w, moved(row[i], want)
				}
				v, e := d.Direct(n)
				w, x, f := u.direct(n)
				if v != x || e != f {
					t.Errorf("Direct(%d): %X, error %d; want %X, error %d", n, v, e, x, f)
				}
				if f == api.OK {
					u = w
				}
			}
		})
	}
	group.Wait()
}

// P8.8: a refusal that is met while the caller itself gives up is answered like any other, and leaves the caller's panic alone.
func TestRefusedWhileTheCallerGivesUp(t *testing.T) {
	d, s := begun(t, 0, 0, 0, 0, 0), made(t, 1)
	wantDirect(t, d, 7, 0)
	defer func() {
		if gave := recover(); gave != "the caller's" {
			t.Errorf("the panic is %v", gave)
		}
		wantRow(t, s, []int{1024})
		wantEnd(t, d, 5, true)
	}()
	defer func() {
		noDirect(t, d, 1, api.ErrTruncated)
		noBit(t, d, s, 0, api.ErrTruncated)
		wantDirect(t, d, 0, 0)
	}()
	panic("the caller's")
}

// W7: memory is taken for the copy alone; bits, and what is refused, take none.
func TestLittleMemoryIsTaken(t *testing.T) {
	b := make([]byte, 100000)
	d, end, s := begun(t, b...), begun(t, 0, 0, 0, 0, 0), made(t, 1)
	wantDirect(t, end, 7, 0)
	total := 0
	for _, c := range []struct {
		name string
		most float64
		call func()
	}{
		{"New", 2, func() { n, _ := rcdec.New(b); total += n.Used() }},
		{"Bit", 0, func() { bit, _ := d.Bit(s, 0); total += bit }},
		{"Direct", 0, func() { v, _ := d.Direct(32); total += int(v) }},
		{"Bit at the end", 0, func() { _, e := end.Bit(s, 0); total += int(e) }},
		{"Direct at the end", 0, func() { _, e := end.Direct(1); total += int(e) }},
		{"Used, Done", 0, func() {
			if d.Done() {
				total += d.Used()
			}
		}},
	} {
		if n := testing.AllocsPerRun(50, c.call); n > c.most {
			t.Errorf("%s takes memory %v times", c.name, n)
		}
	}
}

// P8.8: a long row of bytes is read without going over it again and again.
func TestLongRows(t *testing.T) {
	b := make([]byte, 1<<20+5)
	d, s := begun(t, b...), made(t, 1)
	for range 1 << 18 {
		if v, e := d.Direct(32); v != 0 || e != api.OK {
			t.Fatalf("%d, error %d", v, e)
		}
	}
	wantEnd(t, d, len(b), true)
	d = begun(t, b[:60]...)
	for k := range 10000 {
		if bit, e := d.Bit(s, 0); bit != 0 || e != api.OK && d.Used() < 30 {
			t.Fatalf("bit %d: %d, error %d", k, bit, e)
		}
	}
}
