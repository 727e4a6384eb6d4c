package block_test

import (
	"bytes"
	"math"
	"math/rand"
	"testing"

	"pith/api"
)

// wantBack: P22.3, of a configuration that is legal: what is made is read, whatever stands behind it, with each limit from the dictionary on that its header tells.
func wantBack(t *testing.T, data []byte, c api.Config) {
	t.Helper()
	b, r := made(t, data, c)
	dict := dicts()[leastByte(c.Dict)]
	for _, behind := range [][]byte{nil, {0}, {0, 0, 0, 0, 0}, {1}, {255, 255, 255, 255}, b, noise(int64(len(data)), 33)} {
		wantDecoded(t, join(b, behind), c.Check, dict, data, r, len(b))
	}
	for _, mem := range []int{dict + 1, api.MaxTold, math.MaxInt} {
		wantDecoded(t, b, c.Check, mem, data, r, len(b))
	}
	wantFault(t, b, c.Check, dict-1, api.ErrMemLimit, 0)
}

// P22.3: each shape, of data that pack and of such as do not.
func TestThereAndBack(t *testing.T) {
	for _, c := range shapes() {
		for _, data := range [][]byte{nil, {0}, {255}, []byte("ab"), []byte("abc"), []byte("abcd"), text(700), slope(900), noise(5, 400), mixed(800), make([]byte, 3000)} {
			wantBack(t, data, c)
		}
	}
}

// P22.3: each field at the edges of what is legal.
func TestThereAndBackOfEachField(t *testing.T) {
	for _, f := range fields() {
		for _, v := range f.right {
			for _, kind := range kinds {
				for _, data := range [][]byte{nil, {7}, text(300), slope(1000)} {
					c := with(kind, api.ModeCheap, 2)
					f.set(&c, v)
					wantBack(t, data, c)
				}
			}
		}
	}
}

// P22.3: all lengths from none on, so that all ends of a row are met.
func TestThereAndBackOfLengths(t *testing.T) {
	for n := range 300 {
		wantBack(t, text(n), with(kinds[n%4], modes[n%3], n%5))
		wantBack(t, noise(int64(n), n), with(kinds[n/4%4], modes[n/3%3], n%257))
	}
}

// P22.3: several chunks, at their edges.
func TestThereAndBackOfChunks(t *testing.T) {
	t.Parallel()
	for i, n := range []int{65535, 65536, 65537, 131072, 131073, 200000} {
		for k, data := range [][]byte{text(n), noise(int64(n), n), mixed(n), slope(n), make([]byte, n)} {
			c := with(kinds[(i+k)%4], modes[(i+2*k)%3], []int{0, 1, 256}[k%3])
			c.Block = n
			wantBack(t, data, c)
		}
	}
}

// P22.3: blocks one behind the other are read one after the other.
func TestBlocksInARow(t *testing.T) {
	for _, kind := range kinds {
		var all []byte
		var l []answer
		for i, data := range [][]byte{text(90), nil, noise(1, 50), slope(600), nil, []byte("abc")} {
			b, r := made(t, data, with(kind, modes[i%3], i%4))
			all = append(all, b...)
			l = append(l, answer{data, r, len(b), api.OK})
		}
		rest := all
		for _, want := range l {
			wantDecoded(t, rest, kind, 4096, want.data, want.record, want.n)
			rest = rest[want.n:]
		}
		wantFault(t, rest, kind, 4096, api.ErrTruncated, 0)
	}
}

// P22.3: any legal configuration, any data.
func TestThereAndBackByChance(t *testing.T) {
	r := rand.New(rand.NewSource(223))
	for range 400 {
		lc := r.Intn(5)
		c := api.Config{
			Check: kinds[r.Intn(4)], Delta: r.Intn(257), Props: api.Props{LC: lc, LP: r.Intn(5 - lc), PB: r.Intn(5)},
			Dict: 4096 + r.Intn(100000), Block: 1000 + r.Intn(1000), Mode: r.Intn(3),
		}
		n := r.Intn(1000)
		wantBack(t, [][]byte{text(n), slope(n), noise(r.Int63(), n), mixed(n)}[r.Intn(4)], c)
	}
}

// P22.3, P22.1: unlike data, of one check or none, make unlike blocks.
func TestUnlikeDataMakeUnlikeBlocks(t *testing.T) {
	all := [][]byte{nil, {0}, {0, 0}, {1}, []byte("abc"), []byte("abcd"), text(100), text(101), noise(1, 100), noise(2, 100)}
	for _, c := range shapes() {
		for i, data := range all {
			b, _ := made(t, data, c)
			for _, other := range all[:i] {
				if d, _ := made(t, other, c); bytes.HasPrefix(b, d) || bytes.HasPrefix(d, b) {
					t.Errorf("%+v: %s and %s begin alike", c, shown(data), shown(other))
				}
			}
		}
	}
}
