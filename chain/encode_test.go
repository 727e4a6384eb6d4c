package chain_test

import (
	"bytes"
	"syscall"
	"testing"

	"pith/api"
	"pith/chain"
	"pith/lzma2"
)

// differences: y[i] = x[i] - x[i - d], modulo 256, by the words of chapter 19.
func differences(x []byte, d int) []byte {
	y := bytes.Clone(x)
	for i := d; i < len(x); i++ {
		y[i] = x[i] - x[i-d]
	}
	return y
}

// encodeByWords: Encode of a configuration that is legal.
func encodeByWords(t *testing.T, data []byte, c api.Config) []byte {
	t.Helper()
	if c.Delta > 0 {
		data = differences(data, c.Delta)
	}
	b, errno := lzma2.Encode(data, c)
	if errno != api.OK {
		t.Fatalf("lzma2: %+v: error %d", c, errno)
	}
	return b
}

// wantEncoded: just these bytes.
func wantEncoded(t *testing.T, data string, c api.Config, want ...byte) {
	t.Helper()
	if b, errno := chain.Encode([]byte(data), c); !bytes.Equal(b, want) || errno != api.OK {
		t.Errorf("Encode(%q, %+v): %s, error %d; want %s", data, c, shown(b), errno, shown(want))
	}
}

// P20.6: rows that are told byte by byte.
func TestEncodeOfExamples(t *testing.T) {
	for _, mode := range modes {
		c := usual
		c.Mode = mode
		wantEncoded(t, "", c, 0)
		wantEncoded(t, "abc", c, 1, 0, 2, 'a', 'b', 'c', 0)
		c.Delta = 1
		wantEncoded(t, "", c, 0)
		wantEncoded(t, "abc", c, 1, 0, 2, 'a', 1, 1, 0)
		wantEncoded(t, "cba", c, 1, 0, 2, 'c', 255, 255, 0)
		c.Delta = 2
		wantEncoded(t, "abc", c, 1, 0, 2, 'a', 'b', 2, 0)
		c.Delta = 256
		wantEncoded(t, "abc", c, 1, 0, 2, 'a', 'b', 'c', 0)
	}
	b := encoded(t, bytes.Repeat([]byte("a"), 20), usual)
	if !bytes.HasPrefix(b, []byte{0xE0, 0, 0x13}) || b[5] != 0x5D {
		t.Errorf("20 times a: %s", shown(b))
	}
}

// P20.6: the row of lzma2, of the data or of their differences, for every distance, in each mode.
func TestEncode(t *testing.T) {
	for dist := range 257 {
		for _, n := range []int{0, 1, dist, dist + 1, 600} {
			for _, data := range [][]byte{slope(n), text(n), noise(int64(dist), n)} {
				c := usual
				c.Delta, c.Mode = dist, modes[(dist+n)%3]
				if b := encoded(t, data, c); !bytes.Equal(b, encodeByWords(t, data, c)) {
					t.Fatalf("%d bytes, %+v: %s", n, c, shown(b))
				}
			}
		}
	}
}

// P20.6: with the configuration's properties, dictionary and mode; of several pieces too.
func TestEncodeByTheConfiguration(t *testing.T) {
	data := append(append(text(65536), slope(3000)...), text(7000)...)
	for i, c := range []api.Config{
		{Dict: 4096, Block: 1},
		{Dict: 67108864, Block: 1, Mode: 1},
		{Dict: 5000, Block: 70000, Mode: 1, Check: 10, Props: api.Props{LP: 4, PB: 4}},
		{Dict: 1 << 20, Block: 1 << 31, Mode: 2, Check: 4, Props: api.Props{LC: 4, PB: 0}},
	} {
		for _, c.Delta = range []int{0, 2} {
			if b := encoded(t, data, c); !bytes.Equal(b, encodeByWords(t, data, c)) {
				t.Errorf("configuration %d, distance %d: %s", i, c.Delta, shown(b))
			}
		}
	}
}

// P20.6: what a block is cut into, and its check, are not this layer's: the row is the same.
func TestEncodeAsksNoBlockAndNoCheck(t *testing.T) {
	for _, data := range [][]byte{nil, text(500), slope(500)} {
		for _, dist := range []int{0, 2} {
			c := usual
			c.Delta = dist
			want := encoded(t, data, c)
			for _, check := range []int{0, 1, 4, 10} {
				for _, block := range []int{1, 2, 499, 500, 501, 1 << 31} {
					c.Check, c.Block = check, block
					if b := encoded(t, data, c); !bytes.Equal(b, want) {
						t.Errorf("%d bytes, %+v: %s", len(data), c, shown(b))
					}
				}
			}
		}
	}
}

// P20.6: samples are packed through the filter, and hardly without it.
func TestDeltaHelps(t *testing.T) {
	c := usual
	plain := len(encoded(t, slope(300), c))
	c.Delta = 2
	if through := len(encoded(t, slope(300), c)); 4*through > plain {
		t.Errorf("%d bytes through the filter, %d without", through, plain)
	}
}

// P20.6: more than MaxData bytes are lzma2's ErrRange, but what is not allowed comes first.
func TestEncodeOfTooMany(t *testing.T) {
	// Pages that nobody writes to take no memory.
	many, err := syscall.Mmap(-1, 0, api.MaxData+1, syscall.PROT_READ, syscall.MAP_ANON|syscall.MAP_PRIVATE)
	if err != nil {
		t.Skip(err)
	}
	defer syscall.Munmap(many)
	c := usual
	if b, errno := chain.Encode(many, c); len(b) > 0 || errno != api.ErrRange {
		t.Errorf("%d bytes, error %d", len(b), errno)
	}
	for _, c.Block = range []int{0, api.MaxBlock + 1} {
		if b, errno := chain.Encode(many, c); len(b) > 0 || errno != api.ErrConfig {
			t.Errorf("Block %d: %d bytes, error %d", c.Block, len(b), errno)
		}
	}
}
