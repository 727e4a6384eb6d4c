package stream_test

import (
	"bytes"
	"math/rand"
	"testing"

	"pith/api"
	"pith/stream"
)

// wantBack: P25.4, of a configuration that is legal: the data again, the blocks, the length of the file.
func wantBack(t *testing.T, data []byte, c api.Config) {
	t.Helper()
	f := made(t, data, c)
	for _, mem := range []int{2 * c.Dict, api.MaxTold} {
		if d, e := stream.Decode(f, mem); !bytes.Equal(d, data) || e != nil {
			t.Errorf("%+v: Decode(%s, %d): %s, %v; want %s", c, shown(f), mem, shown(d), e, shown(data))
		}
	}
	l, kind, e := stream.Places(f, 2*c.Dict)
	blocks := (len(data) + c.Block - 1) / c.Block
	if len(l) != blocks || kind != c.Check || e != nil {
		t.Errorf("%+v: Places(%s): %d blocks, %d, %v; want %d", c, shown(f), len(l), kind, e, blocks)
	}
	start := 0
	for i, p := range l {
		if i < blocks-1 && p.Record.Size != c.Block || p.Start != start {
			t.Errorf("%+v: the block %d has %+v", c, i, p)
		}
		start += p.Record.Size
	}
	if most := len(data) + 3*((len(data)+65535)/65536) + 96*blocks + 64; len(f) > most || start != len(data) {
		t.Errorf("%+v: %d plain bytes, a file of %d; want at most %d", c, start, len(f), most)
	}
}

// P25.4, P5: no byte, one, just Block bytes, one more, several blocks; of each shape; data that pack and such as do not.
func TestThereAndBack(t *testing.T) {
	t.Parallel()
	for i, c := range shapes(40) {
		for _, n := range []int{0, 1, 39, 40, 41, 80, 81, 200} {
			for _, data := range [][]byte{text(n), noise(int64(n), n), slope(n), make([]byte, n)} {
				wantBack(t, data, c)
			}
		}
		c.Block = 1 + i
		wantBack(t, mixed(70), c)
	}
}

// P25.4: each field at the edges of what is legal.
func TestThereAndBackOfEachField(t *testing.T) {
	for _, f := range fields() {
		for _, v := range f.right {
			for _, kind := range kinds {
				for _, data := range [][]byte{nil, {7}, text(100), slope(400)} {
					c := with(kind, api.ModeCheap, 2, 300)
					f.set(&c, v)
					wantBack(t, data, c)
				}
			}
		}
	}
}

// P25.4: several chunks a block, and several blocks of several chunks, at their edges.
func TestThereAndBackOfChunks(t *testing.T) {
	t.Parallel()
	for i, n := range []int{65535, 65536, 65537, 131072, 131073, 200000} {
		for k, data := range [][]byte{text(n), noise(int64(n), n), mixed(n), make([]byte, n)} {
			c := with(kinds[(i+k)%4], modes[(i+2*k)%2], []int{0, 1, 256}[k%3], []int{65535, 65536, 65537, 131072, 1 << 31}[(i+k)%5])
			wantBack(t, data, c)
		}
	}
}

// P25.4, P5: the longest files that there are: noise, of which no byte is packed, with the greatest check.
func TestTheLengthOfFiles(t *testing.T) {
	for _, size := range []int{1, 2, 3, 4, 5, 100, 65536, 65537} {
		for _, kind := range kinds {
			n := min(300*size, 140000)
			wantBack(t, noise(int64(n), n), with(kind, n%2, 0, size))
		}
	}
}

// P7: equal bytes are packed.
func TestEqualBytesArePacked(t *testing.T) {
	for _, n := range []int{64, 65, 100, 1000, 65536} {
		for _, mode := range modes[1:] {
			f := made(t, bytes.Repeat([]byte{'p'}, n), with(0, mode, 0, 65536))
			// Header, a block's header, at most three zeros, an index, a footer.
			if most := 12 + 12 + 64 + n/64 + 3 + 16 + 12; len(f) > most {
				t.Errorf("%d equal bytes, mode %d: a file of %d bytes; want at most %d", n, mode, len(f), most)
			}
		}
	}
}

// P25.4, P1: any legal configuration, any data.
func TestThereAndBackByChance(t *testing.T) {
	t.Parallel()
	r := rand.New(rand.NewSource(255))
	for range 600 {
		lc := r.Intn(5)
		c := api.Config{
			Check: kinds[r.Intn(4)], Delta: r.Intn(257), Props: api.Props{LC: lc, LP: r.Intn(5 - lc), PB: r.Intn(5)},
			Dict: 4096 + r.Intn(100000), Block: 10 + r.Intn(1000), Mode: r.Intn(3),
		}
		n := r.Intn(1000)
		wantBack(t, [][]byte{text(n), slope(n), mixed(n)}[r.Intn(3)], c)
	}
}

// P25.4, P25.1: unlike data make unlike files.
func TestUnlikeDataMakeUnlikeFiles(t *testing.T) {
	all := [][]byte{nil, {0}, {0, 0}, {1}, []byte("abc"), []byte("abcd"), text(100), text(101), noise(1, 100), noise(2, 100)}
	for _, c := range shapes(50) {
		for i, data := range all {
			f := made(t, data, c)
			for _, other := range all[:i] {
				if bytes.Equal(f, made(t, other, c)) {
					t.Errorf("%+v: %s and %s have one file", c, shown(data), shown(other))
				}
			}
		}
	}
}
