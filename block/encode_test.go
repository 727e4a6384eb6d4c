package block_test

import (
	"math"
	"math/rand"
	"testing"

	"pith/api"
)

// emptyHeader: that of the chapter's examples.
var emptyHeader = sealed(2, 0, 0x21, 1, 0, 0, 0, 0)

// P22.1: the chapter's examples.
func TestEncodeOfExamples(t *testing.T) {
	abc := []byte("abc")
	one := join(emptyHeader, []byte{1, 0, 2, 0x61, 0x62, 0x63, 0, 0})
	wantEncoded(t, abc, bare, one, api.Record{Unpadded: 19, Size: 3})
	wantEncoded(t, nil, bare, join(emptyHeader, make([]byte, 4)), api.Record{Unpadded: 13})
	// The CRC-32 of "abc" is 352441C2.
	wantEncoded(t, abc, with(1, 0, 0), join(one, []byte{0xC2, 0x41, 0x24, 0x35}), api.Record{Unpadded: 23, Size: 3})
	small := bare
	small.Block = 2
	wantNotEncoded(t, abc, small, api.ErrRange)
	wantNotEncoded(t, abc, with(2, 0, 0), api.ErrConfig)
}

// P22.1: the header of the chapter's examples, its sum told byte by byte.
func TestEncodeLaysTheHeader(t *testing.T) {
	header := []byte{0x02, 0x00, 0x21, 0x01, 0x16, 0x00, 0x00, 0x00, 0x74, 0x2F, 0xE5, 0xA3}
	c := bare
	c.Dict = 8 << 20
	wantEncoded(t, nil, c, join(header, make([]byte, 4)), api.Record{Unpadded: 13})
	header = []byte{0x02, 0x01, 0x03, 0x01, 0xFF, 0x21, 0x01, 0x01, 0x4F, 0xA3, 0x12, 0xB3}
	c.Dict, c.Delta = 6144, 256
	wantEncoded(t, nil, c, join(header, make([]byte, 4)), api.Record{Unpadded: 13})
}

// P22.1: each kind of a check, with each mode, with and without a Delta filter.
func TestEncodeOfShapes(t *testing.T) {
	for _, c := range shapes() {
		for _, data := range [][]byte{nil, {0}, {255}, []byte("abc"), text(300), slope(600), noise(1, 300), mixed(500)} {
			wantEncodedByWords(t, data, c)
		}
	}
}

// P22.1: data of one chunk and of more, at their edges.
func TestEncodeOfChunks(t *testing.T) {
	t.Parallel()
	for _, n := range []int{65535, 65536, 65537, 131072, 131073, 150000} {
		for i, data := range [][]byte{text(n), noise(int64(n), n), mixed(n), slope(n)} {
			c := with(kinds[i], api.ModeGreedy, []int{0, 2, 0, 256}[i])
			c.Block = n
			wantEncodedByWords(t, data, c)
			c.Mode = api.ModeRaw
			wantEncodedByWords(t, data, c)
		}
	}
}

// P22.1: no byte, one, just as many as the block may have, one more and many more.
func TestEncodeUpToTheBlock(t *testing.T) {
	for _, n := range []int{1, 2, 3, 100, 65535, 65536, 65537, 70000} {
		for _, c := range []api.Config{with(0, 0, 0), with(1, 1, 0), with(4, 0, 1), with(10, 1, 2)} {
			c.Block = n
			for _, size := range []int{0, 1, n - 1, n} {
				if errno := wantEncodedByWords(t, text(size), c); errno != api.OK {
					t.Errorf("%d bytes in a block of %d: error %d", size, n, errno)
				}
			}
			for _, size := range []int{n + 1, n + 2, 2 * n, 2*n + 65536} {
				if size > n {
					wantNotEncoded(t, text(size), c, api.ErrRange)
				}
			}
		}
	}
}

// P22.1: header and row that want no zeros, one, two and three.
func TestEncodeLaysZeros(t *testing.T) {
	met := map[int]int{}
	for _, kind := range kinds {
		for _, mode := range modes {
			for n := range 200 {
				c := with(kind, mode, n%3)
				data := text(n)
				wantEncodedByWords(t, data, c)
				b, r := made(t, data, c)
				zeros := len(b) - r.Unpadded
				if len(b)%4 != 0 || zeros < 0 || zeros > 3 || r.Size != n {
					t.Fatalf("%d bytes: a block of %d, its record %+v", n, len(b), r)
				}
				met[zeros]++
			}
		}
	}
	for zeros := range 4 {
		if met[zeros] < 100 {
			t.Errorf("%d zeros were met %d times", zeros, met[zeros])
		}
	}
}

// far: numbers that are in no range of a configuration's fields, and those that come into one where an int is cut short.
var far = []int{math.MinInt, math.MinInt + 1, -1 << 32, -1<<32 + 1, -1<<32 + 4096, -4096, -257, -256, -2, 1 << 33, 1<<33 + 1, 1<<33 + 4096, 1 << 62, math.MaxInt - 1, math.MaxInt}

// field: one of a configuration's, the values that are legal and those that are not.
type field struct {
	name  string
	set   func(c *api.Config, v int)
	right []int
	wrong []int
}

// fields: at all edges. Those of LC and LP are legal where the other one is 0.
func fields() []field {
	return []field{
		{"Check", func(c *api.Config, v int) { c.Check = v }, []int{0, 1, 4, 10}, []int{-1, 2, 3, 5, 6, 7, 8, 9, 11, 12, 13, 14, 15, 16, 17, 20, 26, 256, 260}},
		{"Delta", func(c *api.Config, v int) { c.Delta = v }, []int{0, 1, 2, 255, 256}, []int{-1, 257, 258, 512, 513, 65536}},
		{"LC", func(c *api.Config, v int) { c.Props = api.Props{LC: v} }, []int{0, 1, 2, 3, 4}, []int{-1, 5, 6, 8, 9, 256}},
		{"LP", func(c *api.Config, v int) { c.Props = api.Props{LP: v} }, []int{0, 1, 2, 3, 4}, []int{-1, 5, 6, 256}},
		{"PB", func(c *api.Config, v int) { c.Props.PB = v }, []int{0, 1, 2, 3, 4}, []int{-1, 5, 6, 256}},
		{"Dict", func(c *api.Config, v int) { c.Dict = v }, []int{4096, 4097, 6144, 6145, 8192, 65536, 67108863, 67108864}, []int{-1, 0, 1, 4094, 4095, 67108865, 67108866, 1<<32 - 1, 1 << 32}},
		{"Block", func(c *api.Config, v int) { c.Block = v }, []int{1000, 1001, 65536, 1<<31 - 1, 1 << 31}, []int{-1, 0, 1<<31 + 1, 1<<31 + 2, 1<<32 - 1, 1 << 32}},
		{"Mode", func(c *api.Config, v int) { c.Mode = v }, []int{0, 1, 2}, []int{-1, 3, 4, 256}},
	}
}

// P22.1: each field of a configuration by itself, legal and not.
func TestEncodeOfEachField(t *testing.T) {
	for _, f := range fields() {
		for _, data := range [][]byte{nil, []byte("abc"), text(300), slope(1000)} {
			for _, v := range f.right {
				c := with(1, api.ModeGreedy, 2)
				f.set(&c, v)
				if errno := wantEncodedByWords(t, data, c); errno != api.OK {
					t.Errorf("%s %d: error %d", f.name, v, errno)
				}
			}
			for _, v := range append(f.wrong, far...) {
				c := with(1, api.ModeGreedy, 2)
				f.set(&c, v)
				wantNotEncoded(t, data, c, api.ErrConfig)
			}
		}
	}
}

// P22.1: a configuration that is not legal comes ahead of data that are too long.
func TestEncodeOrder(t *testing.T) {
	for _, f := range fields() {
		for _, v := range append(f.wrong, far...) {
			c := bare
			c.Block = 2
			f.set(&c, v)
			wantNotEncoded(t, []byte("abc"), c, api.ErrConfig)
		}
	}
	wantNotEncoded(t, nil, api.Config{}, api.ErrConfig)
	wantNotEncoded(t, []byte("abc"), api.Config{}, api.ErrConfig)
	both := with(0, 0, 0)
	both.Props = api.Props{LC: 4, LP: 1}
	wantNotEncoded(t, nil, both, api.ErrConfig)
}

// P22.1: any configurations and data.
func TestEncodeByTheWords(t *testing.T) {
	r := rand.New(rand.NewSource(221))
	met := map[api.Errno]int{}
	for range 1500 {
		c := api.Config{
			Check: []int{0, 1, 4, 10, 2}[r.Intn(5)], Delta: r.Intn(280), Props: api.Props{LC: r.Intn(4), LP: r.Intn(3), PB: r.Intn(5)},
			Dict: 4000 + r.Intn(5000), Block: r.Intn(600), Mode: r.Intn(3),
		}
		n := r.Intn(400)
		met[wantEncodedByWords(t, [][]byte{text(n), slope(n), noise(r.Int63(), n), mixed(n)}[r.Intn(4)], c)]++
	}
	for _, errno := range []api.Errno{api.OK, api.ErrConfig, api.ErrRange} {
		if met[errno] < 50 {
			t.Errorf("what was met: %v", met)
		}
	}
}
