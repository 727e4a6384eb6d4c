package lzdec_test

import (
	"bytes"
	"math/rand"
	"runtime"
	"slices"
	"sync"
	"testing"

	"pith/api"
	"pith/lzdec"
)

// P15.7: no call panics, at any bytes and numbers, in any order.
func TestEveryCallEnds(t *testing.T) {
	r := rand.New(rand.NewSource(1591))
	numbers := append([]int{1, 2, 3, 9, 300, 1 << 16, api.MaxChunk}, wrongSizes...)
	props := append(allProps(), wrongProps...)
	for _, dict := range []int{1, 3, 4096, api.MaxTold} {
		d := made(t, usual, dict)
		for range 4000 {
			b := make([]byte, r.Intn(1<<r.Intn(9)))
			r.Read(b)
			if len(b) > 0 && r.Intn(8) > 0 {
				b[0] = 0
			}
			switch r.Intn(8) {
			case 0:
				d.Raw(b...)
			case 1:
				d.Reset(props[r.Intn(len(props))])
			case 2, 3:
				d.Clear()
			default:
				n := numbers[r.Intn(len(numbers))]
				l, data, errno := d.Take(b, n)
				if errno == api.OK && (len(data) != n || size(l) != n) || errno != api.OK && len(l)+len(data) > 0 {
					t.Fatalf("Take(% X, %d): %d symbols, %d bytes, error %d", b, n, len(l), len(data), errno)
				}
			}
		}
	}
}

// P15.7, W3: the bytes that are handed in stay as they were, and the room around them, be they taken or refused; what the caller does to them later is not seen.
func TestPackedBytesStay(t *testing.T) {
	for name, begin := range situations {
		t.Run(name, func(t *testing.T) {
			for _, right := range []bool{true, false} {
				a := begin(t)
				l := []api.Symbol{lit(1), lit(200), match(30, 1), short(), lit(9)}
				a.w.put(t, l...)
				b := a.w.cut()
				room := slices.Concat(count(20), b, count(50))
				if !right {
					room[20+len(b)-1] ^= 1
				}
				was := bytes.Clone(room)
				_, _, errno := a.d.Take(room[20:20+len(b)], size(l))
				if (errno == api.OK) != right || !bytes.Equal(room, was) {
					t.Fatalf("error %d; or the bytes have changed, or the room around them", errno)
				}
				for i := range room {
					room[i] = 0xEE
				}
				if !right {
					a.clear()
				}
				a.same(t)
				for _, c := range room {
					if c != 0xEE {
						t.Fatal("the bytes have changed behind the call")
					}
				}
			}
		})
	}
}

// answer: what a Take answered, and the same in other memory.
type answer struct {
	row, copyOfRow []api.Symbol
	b, copyOfBytes []byte
}

// spoil: writes over an answer, its spare room too, and lengthens it.
func spoil(row []api.Symbol, b []byte) {
	row, b = row[:cap(row)], b[:cap(b)]
	for i := range row {
		row[i] = match(5, 5)
	}
	for i := range b {
		b[i] = 0xEE
	}
	_, _ = append(row, lit(1)), append(b, 1, 2, 3)
}

// P15.7, W3: answers are new memory: written over and lengthened, they are not seen in later ones; and later calls do not change them.
func TestAnswersAreNewMemory(t *testing.T) {
	for _, dict := range []int{1, 30, 4096} {
		a := newPair(t, usual, dict)
		a.raw(1, 2, 3)
		var kept []answer
		for k := range 80 {
			l := []api.Symbol{lit(byte(k)), lit(3), rep(2+k%9, k%4), lit(4), match(3, 1)}[:1+k%5]
			came := len(a.w.came)
			a.w.put(t, l...)
			row, b, errno := a.d.Take(a.w.cut(), size(l))
			if errno != api.OK || !slices.Equal(row, l) || !bytes.Equal(b, a.w.came[came:]) {
				t.Fatalf("%+v, % X, error %d; want %+v", row, b, errno, l)
			}
			if k%2 == 0 {
				kept = append(kept, answer{row, slices.Clone(row), b, bytes.Clone(b)})
				continue
			}
			spoil(row, b)
		}
		a.same(t)
		for _, x := range kept {
			if !slices.Equal(x.row, x.copyOfRow) || !bytes.Equal(x.b, x.copyOfBytes) {
				t.Error("an answer has changed behind its call")
			}
		}
	}
}

// P15.7: two decoders in turns know nothing of one another, also where one is spent, reset or cleared.
func TestDecodersAreApart(t *testing.T) {
	r := rand.New(rand.NewSource(1593))
	one, other := newPair(t, usual, 300), newPair(t, usual, 300)
	for k := range 200 {
		one.take(t, one.w.chance(r, 6)...)
		switch k % 5 {
		case 0:
			other.raw(count(k)...)
		case 1:
			other.reset(t, boundProps[k%len(boundProps)])
		case 2:
			other.clear()
		case 3:
			wantRefused(t, other.d, []byte{1, 2, 3}, 4, api.ErrFormat)
			other.clear()
		}
		other.take(t, other.w.chance(r, 6)...)
	}
	one.same(t)
	other.same(t)
}

// P15.7: the same bytes by two decoders: answers share no memory.
func TestAnswersOfTwo(t *testing.T) {
	one, other := made(t, usual, 4096), made(t, usual, 4096)
	b := make([]byte, 6)
	l, data, _ := one.Take(b, 1)
	l[0], data[0] = short(), 9
	wantTaken(t, other, b, []api.Symbol{lit(0)}, []byte{0})
}

// W2: how goroutines run is not to be seen.
func TestManyAtOnce(t *testing.T) {
	work := func(seed int64) []byte {
		r := rand.New(rand.NewSource(seed))
		d, errno := lzdec.New(usual, 300)
		if errno != api.OK {
			return nil
		}
		w := newScribe(usual, 300)
		var all []byte
		for range 60 {
			l := append([]api.Symbol{lit(byte(r.Intn(256)))}, short())
			for _, y := range l {
				w.write(y)
				w.apply(y)
			}
			_, b, _ := d.Take(w.cut(), size(l))
			all = append(all, b...)
		}
		return all
	}
	var want [8][]byte
	for k := range want {
		want[k] = work(int64(1594 + k))
	}
	var group sync.WaitGroup
	for k := range want {
		group.Go(func() {
			for range 3 {
				if b := work(int64(1594 + k)); len(b) < 100 || !bytes.Equal(b, want[k]) {
					t.Errorf("the goroutine %d: other bytes", k)
				}
			}
		})
	}
	group.Wait()
}

// taken: how many bytes of memory the calls take.
func taken(do func()) uint64 {
	var before, after runtime.MemStats
	runtime.ReadMemStats(&before)
	do()
	runtime.ReadMemStats(&after)
	return after.TotalAlloc - before.TotalAlloc
}

// W7: memory is taken as bytes are there: neither for the dictionary's size, nor for an n that is told.
func TestLittleMemoryIsTaken(t *testing.T) {
	if n := taken(func() {
		for range 50 {
			d := made(t, usual, api.MaxTold)
			d.Raw(1, 2, 3)
		}
	}); n > 50<<17 {
		t.Errorf("50 decoders take %d bytes", n)
	}
	decoders := make([]*lzdec.Decoder, 50)
	for i := range decoders {
		decoders[i] = made(t, usual, 1<<20)
	}
	if n := taken(func() {
		for _, d := range decoders {
			wantRefused(t, d, make([]byte, 8), api.MaxChunk, api.ErrFormat)
			wantRefused(t, d, make([]byte, 8), api.MaxChunk, api.ErrFormat)
		}
	}); n > 50<<15 {
		t.Errorf("100 Takes that are refused take %d bytes", n)
	}
}

// P15.7: many symbols do not make it slow: none goes over what came before.
func TestManySymbols(t *testing.T) {
	a := newCouple(t, usual, 1<<20)
	a.raw(1, 2)
	for range 20 {
		var l []api.Symbol
		for k := range 10000 {
			l = append(l, lit(byte(k)), rep(3, 0), short())
		}
		a.pass(t, l...)
	}
}
