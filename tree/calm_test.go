package tree_test

import (
	"bytes"
	"math/rand"
	"sync"
	"testing"

	"pith/api"
	"pith/rcdec"
	"pith/rcenc"
)

// P9.8: the longest row that there is, with a tree at its end.
func TestTheLongestRow(t *testing.T) {
	const long = 1 << 20
	for _, o := range orders {
		e, s := rcenc.New(), made(t, long)
		put(t, o, e, s, long-1<<16, 16, 1<<16-1)
		put(t, o, e, s, long-1, 0, 0)
		put(t, o, e, s, long-2, 1, 1)
		if errno := o.put(e, s, long-1<<16+1, 16, 0); errno != api.ErrRange {
			t.Errorf("%s: Put one further: error %d", o.name, errno)
		}
		d, back := begun(t, e.Bytes()...), made(t, long)
		wantGet(t, o, d, back, long-1<<16, 16, 1<<16-1)
		wantGet(t, o, d, back, long-2, 1, 1)
		wantAlike(t, back, s)
	}
}

// W2: what a call answers hangs on its row and its coder alone: others in turns with it change nothing.
func TestRowsAndCodersAreApart(t *testing.T) {
	for _, o := range orders {
		alone, row := rcenc.New(), made(t, 16)
		one, s := rcenc.New(), made(t, 16)
		two, q := rcenc.New(), made(t, 20)
		for k := range 200 {
			put(t, o, alone, row, 0, 4, k%16)
			put(t, o, one, s, 0, 4, k%16)
			put(t, o, two, q, 3, 4, k*7%16)
			costOf(t, o, s, 0, 4, k%16)
		}
		wantSame(t, one, alone)
		wantAlike(t, s, row)
	}
}

// W2: how goroutines run is not to be seen: each has coders and rows of its own, while all ask one row what it costs.
func TestManyAtOnce(t *testing.T) {
	lead := rand.New(rand.NewSource(981))
	shared := chanceRow(t, lead, 300)
	var group sync.WaitGroup
	for k := range 8 {
		group.Go(func() {
			r := rand.New(rand.NewSource(int64(982 + k)))
			o := orders[k%2]
			e, s, back := rcenc.New(), shared.Fork(), shared.Fork()
			sent := []int{}
			for range 800 {
				v := r.Intn(256)
				sent = append(sent, v)
				c, errno := o.cost(shared, 20, 8, v)
				if want := sumOf(o, shared, 20, 8, v); c != want || errno != api.OK {
					t.Errorf("Cost is %d, error %d; want %d", c, errno, want)
				}
				o.put(e, s, 20, 8, v)
			}
			d, errno := rcdec.New(e.Bytes())
			if errno != api.OK {
				t.Errorf("rcdec.New: error %d", errno)
				return
			}
			for _, want := range sent {
				if v, errno := o.get(d, back, 20, 8); v != want || errno != api.OK {
					t.Errorf("Get: %d, error %d; want %d", v, errno, want)
					return
				}
			}
			if !d.Done() {
				t.Error("it is not done")
			}
		})
	}
	group.Wait()
}

// P9.8: costs, numbers that are read, and what is refused take no memory.
func TestNoMemoryIsTaken(t *testing.T) {
	s := made(t, 65536)
	d := begun(t, make([]byte, 100000)...)
	end := begun(t, 0, 0, 0, 0, 0)
	end.Direct(7)
	full := rcenc.New()
	total := 0
	for _, o := range orders {
		for _, c := range []struct {
			name string
			call func()
		}{
			{"Cost", func() { n, _ := o.cost(s, 0, 16, 12345); total += n }},
			{"Get", func() { v, _ := o.get(d, s, 0, 16); total += v }},
			{"Get at the end", func() { _, e := end.Direct(1); v, f := o.get(end, s, 5000, 8); total += v + int(e) + int(f) }},
			{"Get that is refused", func() { _, e := o.get(d, s, 1, 16); total += int(e) }},
			{"Cost that is refused", func() { _, e := o.cost(s, 0, 16, 65536); total += int(e) }},
			{"Put that is refused", func() { total += int(o.put(full, s, 0, 16, -1)) }},
			{"Put of no bits", func() { total += int(o.put(full, s, 0, 0, 0)) }},
		} {
			if n := testing.AllocsPerRun(50, c.call); n != 0 {
				t.Errorf("%s: %s takes memory %v times", o.name, c.name, n)
			}
		}
	}
}

// W3: the bytes that a decoder was made of, and what an encoder answered, stay as they are while numbers are read and put.
func TestBytesStayAsTheyAre(t *testing.T) {
	for _, o := range orders {
		e, s := rcenc.New(), made(t, 256)
		for v := range 100 {
			put(t, o, e, s, 0, 8, v)
		}
		b := e.Bytes()
		was := bytes.Clone(b)
		d, back := begun(t, b...), made(t, 256)
		for v := range 100 {
			wantGet(t, o, d, back, 0, 8, v)
			put(t, o, e, s, 0, 8, v)
		}
		if !bytes.Equal(b, was) {
			t.Errorf("%s: the bytes have changed", o.name)
		}
	}
}
