package stream_test

import (
	"math"
	"math/rand"
	"syscall"
	"testing"

	"pith/api"
	"pith/stream"
)

// P25.1: no data: no block, whatever the configuration.
func TestEncodeOfNoData(t *testing.T) {
	for _, c := range shapes(1) {
		want := ended(c.Check, headerOf(0, byte(c.Check)), []byte{0, 0, 0, 0, 0x1C, 0xDF, 0x44, 0x21})
		if len(want) != 32 {
			t.Fatalf("%d bytes", len(want))
		}
		wantEncoded(t, nil, c, want)
		wantEncoded(t, []byte{}, c, want)
	}
}

// P25.1: no byte, one, just Block bytes, one less and one more, several blocks; each kind of a check, with each mode, with and without a Delta filter.
func TestEncodeOfShapes(t *testing.T) {
	for _, c := range shapes(50) {
		for _, n := range []int{0, 1, 49, 50, 51, 99, 100, 101, 149, 150, 151, 260} {
			for _, data := range [][]byte{text(n), slope(n), noise(int64(n), n)} {
				wantEncoded(t, data, c, encodeByWords(t, data, c))
			}
		}
	}
}

// P25.1: blocks of each size, from one byte to more than there are.
func TestEncodeOfBlocks(t *testing.T) {
	data := text(60)
	for size := 1; size <= 62; size++ {
		for i, kind := range kinds {
			c := with(kind, modes[(size+i)%3], size%3, size)
			wantEncoded(t, data, c, encodeByWords(t, data, c))
		}
	}
}

// P25.1: many blocks, so that their number has one byte, and two; and sizes of more bytes.
func TestEncodeOfManyBlocks(t *testing.T) {
	t.Parallel()
	for _, n := range []int{126, 127, 128, 129, 300, 16384} {
		c := with(1, api.ModeRaw, 0, 1)
		data := text(n)
		wantEncoded(t, data, c, encodeByWords(t, data, c))
	}
	for _, size := range []int{65535, 65536, 65537, 100000} {
		c := with(4, api.ModeGreedy, 1, size)
		data := mixed(200000)
		wantEncoded(t, data, c, encodeByWords(t, data, c))
	}
}

// far: numbers that are in no range of a configuration's fields, and those that come into one where an int is cut short.
var far = []int{math.MinInt, math.MinInt + 1, -1 << 32, -1<<32 + 1, -1<<32 + 4096, -4096, -257, -256, -2, 1 << 33, 1<<33 + 1, 1<<33 + 4096, 1 << 62, math.MaxInt - 1, math.MaxInt}

// field: one of a configuration's, the values that are legal and those that are not.
type field struct {
	name  string
	set   func(c *api.Config, v int)
	right []int
	wrong []int
}

// fields: at all edges. Those of LC and LP are legal where the other one is 0.
func fields() []field {
	return []field{
		{"Check", func(c *api.Config, v int) { c.Check = v }, []int{0, 1, 4, 10}, []int{-1, 2, 3, 5, 6, 7, 8, 9, 11, 12, 13, 14, 15, 16, 17, 20, 26, 256, 260}},
		{"Delta", func(c *api.Config, v int) { c.Delta = v }, []int{0, 1, 2, 255, 256}, []int{-1, 257, 258, 512, 513, 65536}},
		{"LC", func(c *api.Config, v int) { c.Props = api.Props{LC: v} }, []int{0, 1, 2, 3, 4}, []int{-1, 5, 6, 8, 9, 256}},
		{"LP", func(c *api.Config, v int) { c.Props = api.Props{LP: v} }, []int{0, 1, 2, 3, 4}, []int{-1, 5, 6, 256}},
		{"LC and LP", func(c *api.Config, v int) { c.Props = api.Props{LC: v, LP: 2} }, []int{0, 1, 2}, []int{-1, 3, 4, 5}},
		{"PB", func(c *api.Config, v int) { c.Props.PB = v }, []int{0, 1, 2, 3, 4}, []int{-1, 5, 6, 256}},
		{"Dict", func(c *api.Config, v int) { c.Dict = v }, []int{4096, 4097, 6144, 6145, 8192, 65536, 67108863, 67108864}, []int{-1, 0, 1, 4094, 4095, 67108865, 67108866, 1<<32 - 1, 1 << 32}},
		{"Block", func(c *api.Config, v int) { c.Block = v }, []int{1, 2, 100, 65536, 1<<31 - 1, 1 << 31}, []int{-1, 0, 1<<31 + 1, 1<<31 + 2, 1<<32 - 1, 1 << 32}},
		{"Mode", func(c *api.Config, v int) { c.Mode = v }, []int{0, 1, 2}, []int{-1, 3, 4, 256}},
	}
}

// P25.1: each field of a configuration by itself, legal and not, also of no data.
func TestEncodeOfEachField(t *testing.T) {
	for _, f := range fields() {
		for _, data := range [][]byte{nil, []byte("abc"), text(150), slope(400)} {
			for _, v := range f.right {
				c := with(1, api.ModeGreedy, 2, 300)
				f.set(&c, v)
				if !isLegal(c) {
					t.Fatalf("%s %d: not legal", f.name, v)
				}
				wantEncoded(t, data, c, encodeByWords(t, data, c))
			}
			for _, v := range append(f.wrong, far...) {
				c := with(1, api.ModeGreedy, 2, 300)
				f.set(&c, v)
				if isLegal(c) {
					t.Fatalf("%s %d: legal", f.name, v)
				}
				wantNotEncoded(t, data, c)
			}
		}
	}
	wantNotEncoded(t, nil, api.Config{})
}

// P25.1: any configurations and data.
func TestEncodeByTheWords(t *testing.T) {
	r := rand.New(rand.NewSource(251))
	legal := 0
	for range 1500 {
		c := api.Config{
			Check: []int{0, 1, 4, 10, 2}[r.Intn(5)], Delta: r.Intn(270), Props: api.Props{LC: r.Intn(4), LP: r.Intn(3), PB: r.Intn(5)},
			Dict: 4050 + r.Intn(5000), Block: r.Intn(200), Mode: r.Intn(3),
		}
		n := r.Intn(400)
		data := [][]byte{text(n), slope(n), mixed(n)}[r.Intn(3)]
		if !isLegal(c) {
			wantNotEncoded(t, data, c)
			continue
		}
		legal++
		wantEncoded(t, data, c, encodeByWords(t, data, c))
	}
	if legal < 500 || legal > 1400 {
		t.Errorf("%d of 1500 were legal", legal)
	}
}

// P25.1: more than MaxData bytes.
func TestEncodeOfTooMany(t *testing.T) {
	// Pages that nobody writes to take no memory.
	many, err := syscall.Mmap(-1, 0, api.MaxData+1, syscall.PROT_READ, syscall.MAP_ANON|syscall.MAP_PRIVATE)
	if err != nil {
		t.Skip(err)
	}
	defer syscall.Munmap(many)
	for _, size := range []int{0, 1, 65536, api.MaxBlock, api.MaxBlock + 1} {
		if f, e := stream.Encode(many, with(1, api.ModeGreedy, 0, size)); len(f) > 0 || !isFault(e, stream.Config, 0) {
			t.Errorf("%d bytes, %v", len(f), e)
		}
	}
}
