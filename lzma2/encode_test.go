package lzma2_test

import (
	"bytes"
	"math"
	"slices"
	"syscall"
	"testing"

	"pith/api"
	"pith/lzma2"
	"pith/state"
)

// edges: how many bytes are encoded: nothing, one byte, and those where pieces end.
var edges = []int{0, 1, 2, 65535, 65536, 65537, 131073}

// P18.1: the chapter's examples.
func TestEncodeOfExamples(t *testing.T) {
	for _, mode := range modes {
		for data, want := range map[string]string{"": "\x00", "abc": "\x01\x00\x02abc\x00"} {
			if b, errno := lzma2.Encode([]byte(data), config(mode)); string(b) != want || errno != api.OK {
				t.Errorf("mode %d, %q: % X, error %d; want % X", mode, data, b, errno, want)
			}
		}
	}
	b := encoded(t, bytes.Repeat([]byte("a"), 20), config(api.ModeGreedy))
	if !bytes.HasPrefix(b, []byte{0xE0, 0, 0x13}) || b[5] != 0x5D {
		t.Errorf("20 times a: % X", b)
	}
}

// P18.1: what is not allowed is refused, whatever the data; the rest of the configuration is not looked at.
func TestEncodeRefuses(t *testing.T) {
	wrong := []api.Config{
		{Props: usual, Dict: 4095, Mode: 1}, {Props: usual, Dict: 0}, {Props: usual, Dict: -1}, {Props: usual, Dict: math.MinInt}, {Props: usual, Dict: api.MaxDict + 1}, {Props: usual, Dict: api.MaxTold}, {Props: usual, Dict: math.MaxInt},
		{Props: usual, Dict: 4096, Mode: -1}, {Props: usual, Dict: 4096, Mode: 3}, {Props: usual, Dict: 4096, Mode: math.MinInt}, {Props: usual, Dict: 4096, Mode: math.MaxInt}, {Props: usual, Dict: 4096, Mode: 1 << 32},
		{},
	}
	for _, p := range noProps {
		for _, mode := range modes {
			wrong = append(wrong, api.Config{Props: p, Dict: 4096, Mode: mode})
		}
	}
	for _, c := range wrong {
		for _, data := range []string{"", "abc"} {
			if b, errno := lzma2.Encode([]byte(data), c); len(b) > 0 || errno != api.ErrConfig {
				t.Errorf("%q, %+v: % X, error %d; want error %d", data, c, b, errno, api.ErrConfig)
			}
		}
	}
	for _, c := range []api.Config{{Props: usual, Dict: 4096, Check: 77, Delta: -5, Block: -9}, {Props: usual, Dict: api.MaxDict, Check: -1, Delta: 300, Block: math.MaxInt}} {
		if b := encoded(t, []byte("abc"), c); string(b) != "\x01\x00\x02abc\x00" {
			t.Errorf("%+v: % X", c, b)
		}
	}
}

// P18.1: more than MaxData bytes are ErrRange, but what is not allowed comes first.
func TestEncodeOfTooMany(t *testing.T) {
	// Pages that nobody writes to take no memory.
	many, err := syscall.Mmap(-1, 0, api.MaxData+1, syscall.PROT_READ, syscall.MAP_ANON|syscall.MAP_PRIVATE)
	if err != nil {
		t.Skip(err)
	}
	defer syscall.Munmap(many)
	for _, mode := range modes {
		if b, errno := lzma2.Encode(many, config(mode)); len(b) > 0 || errno != api.ErrRange {
			t.Errorf("mode %d: %d bytes, error %d", mode, len(b), errno)
		}
	}
	if b, errno := lzma2.Encode(many, config(3)); len(b) > 0 || errno != api.ErrConfig {
		t.Errorf("the mode 3: %d bytes, error %d", len(b), errno)
	}
}

// P18.1: what is neither below nor above is taken, for all properties.
func TestEncodeTakesAllThatIsAllowed(t *testing.T) {
	data := text(1, 400)
	for b := range 225 {
		p, errno := state.ByteProps(b)
		if errno != api.OK {
			continue
		}
		for _, dict := range []int{api.MinDict, api.MaxDict} {
			for _, mode := range modes {
				c := api.Config{Props: p, Dict: dict, Mode: mode}
				row := encoded(t, data, c)
				if !bytes.Equal(row, encodeByWords(data, c)) {
					t.Errorf("%+v: not by the words", c)
				}
				wantRead(t, row, dict, -1, -1, data, len(row))
			}
		}
	}
}

// wantByWords: the row is that of the words, it is read, and its chunks have these kinds.
func wantByWords(t *testing.T, data []byte, c api.Config, kinds ...int) {
	t.Helper()
	b := encoded(t, data, c)
	if !bytes.Equal(b, encodeByWords(data, c)) {
		t.Errorf("%d bytes, %+v: not by the words", len(data), c)
	}
	if got := kindsOf(t, b); !slices.Equal(got, kinds) {
		t.Errorf("%d bytes, %+v: kinds %v, want %v", len(data), c, got, kinds)
	}
	wantRead(t, b, c.Dict, -1, -1, data, len(b))
}

// P18.1: pieces of 65536 bytes, of data that pack and of data that do not, in each mode.
func TestEncodeAtEdges(t *testing.T) {
	t.Parallel()
	for _, n := range edges {
		pieces := (n + 65535) / 65536
		raw := slices.Repeat([]int{2}, pieces)
		packed := slices.Repeat([]int{3}, pieces)
		if pieces > 0 {
			raw[0], packed[0] = 1, 6
		}
		if n < 3 {
			packed = raw
		}
		for _, mode := range modes {
			c := config(mode)
			wantByWords(t, noise(int64(n), n), c, raw...)
			if n%65536 == 1 && n > 1 {
				continue // the last piece of one byte is another matter, below
			}
			if mode == api.ModeRaw {
				wantByWords(t, text(int64(n), n), c, raw...)
			} else {
				wantByWords(t, text(int64(n), n), c, packed...)
			}
		}
	}
}

// P18.1: a last piece of one byte is raw, behind a packed one and behind a raw one, for packed it would have more bytes.
func TestEncodeOfOneByteLeft(t *testing.T) {
	t.Parallel()
	for _, mode := range modes[1:] {
		wantByWords(t, text(1, 65537), config(mode), 6, 2)
		wantByWords(t, text(2, 131073), config(mode), 6, 3, 2)
		wantByWords(t, slices.Concat(noise(1, 65536), text(1, 65537)), config(mode), 1, 5, 2)
	}
}

// pieces: 65536 bytes for each letter: t of text, n of noise.
func pieces(letters string) []byte {
	var data []byte
	for i, c := range letters {
		if c == 't' {
			data = append(data, text(int64(i), 65536)...)
		} else {
			data = append(data, noise(int64(i), 65536)...)
		}
	}
	return data
}

// P18.1: the kinds that follow one another: the state is begun anew behind a raw chunk, properties are told once.
func TestEncodeOfMixed(t *testing.T) {
	t.Parallel()
	for letters, kinds := range map[string][]int{
		"ntt": {1, 5, 3}, "ntnt": {1, 5, 2, 4}, "nnt": {1, 2, 5}, "ttn": {6, 3, 2}, "tntt": {6, 2, 4, 3}, "tnnt": {6, 2, 2, 4}, "nttnt": {1, 5, 3, 2, 4},
	} {
		wantByWords(t, pieces(letters), config(api.ModeGreedy), kinds...)
	}
	wantByWords(t, pieces("ntnt"), config(api.ModeCheap), 1, 5, 2, 4)
	wantByWords(t, pieces("tntt"), config(api.ModeCheap), 6, 2, 4, 3)
	wantByWords(t, pieces("tntnt"), config(api.ModeRaw), 1, 2, 2, 2, 2)
}

// P18.1: raw bytes come into the dictionary, and are copied from as far as it reaches.
func TestEncodeCopiesFromRawChunks(t *testing.T) {
	t.Parallel()
	once := noise(7, 65536)
	for _, mode := range modes[1:] {
		c := config(mode)
		wantByWords(t, slices.Concat(once, once), c, 1, 2)
		c.Dict = 65535
		wantByWords(t, slices.Concat(once, once), c, 1, 2)
		c.Dict = 65536
		wantByWords(t, slices.Concat(once, once), c, 1, 5)
		wantByWords(t, slices.Concat(once, once, once), c, 1, 5, 3)
		c.Dict = 200000
		wantByWords(t, slices.Concat(once, text(8, 65536), once), c, 1, 5, 3)
	}
}

// P18.1: the packed chunk is kept if it is shorter by one byte, and is not if both are equally long.
func TestEncodeKeepsTheShorter(t *testing.T) {
	differences := map[int]int{}
	for n := range 60 {
		for tail := range 40 {
			data := append(bytes.Repeat([]byte("a"), n), noise(int64(tail), tail)...)
			c := config(api.ModeGreedy)
			b := encoded(t, data, c)
			if !bytes.Equal(b, encodeByWords(data, c)) {
				t.Fatalf("%q: % X", data, b)
			}
			if len(data) == 0 {
				continue
			}
			packed := triedByWords(data, c)
			difference := packed - (3 + len(data))
			differences[difference]++
			if kept := kindsOf(t, b)[0] == api.ChunkAll; kept != (difference < 0) {
				t.Errorf("%q: kept %v, %d more bytes than raw", data, kept, difference)
			}
		}
	}
	if differences[-1] == 0 || differences[0] == 0 || differences[1] == 0 {
		t.Errorf("one of the edges is not met: %v", differences)
	}
}

// triedByWords: how many bytes the packed chunk of a first piece would have.
func triedByWords(data []byte, c api.Config) int {
	l, _, _ := greedy(data, c.Dict)
	b, _ := lzma2.Build(c.Dict, api.Part{Kind: api.ChunkAll, Props: c.Props, Symbols: l})
	return len(b) - 1
}

// P18.1: data that are made of all kinds of stretches, which end anywhere.
func TestEncodeOfManyKinds(t *testing.T) {
	t.Parallel()
	var data []byte
	for i := range 8 {
		data = append(data, text(int64(i), 9000+i*777)...)
		data = append(data, noise(int64(i), 7000+i*1300)...)
		data = append(data, bytes.Repeat([]byte{byte(i)}, 3000)...)
	}
	for i, p := range someProps {
		for _, mode := range modes {
			c := api.Config{Props: p, Dict: 4096 << i, Mode: mode}
			if mode == api.ModeCheap && i%3 > 0 {
				continue
			}
			b := encoded(t, data, c)
			if !bytes.Equal(b, encodeByWords(data, c)) {
				t.Errorf("%+v: not by the words", c)
			}
			wantRead(t, b, c.Dict, len(b), len(data), data, len(b))
		}
	}
}
