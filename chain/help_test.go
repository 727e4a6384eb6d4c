package chain_test

import (
	"bytes"
	"math"
	"math/rand"
	"testing"

	"pith/api"
	"pith/chain"
)

const greatest = 1<<63 - 1

// usual: a configuration that is legal, none of whose fields is at an edge but the dictionary.
var usual = api.Config{Check: api.CheckCRC32, Props: api.Props{LC: 3, PB: 2}, Dict: 4096, Block: 100, Mode: api.ModeGreedy}

// modes: all of them.
var modes = []int{api.ModeRaw, api.ModeGreedy, api.ModeCheap}

// filter: of a number and its properties.
func filter(id uint64, props ...byte) api.Filter { return api.Filter{ID: id, Props: props} }

// lzma: LZMA2 with the byte that tells its dictionary.
func lzma(props byte) api.Filter { return filter(33, props) }

// apart: Delta with a distance.
func apart(dist int) api.Filter { return filter(3, byte(dist-1)) }

// same: nil and empty properties are the same.
func same(a, b api.Filter) bool { return a.ID == b.ID && bytes.Equal(a.Props, b.Props) }

// noise: n bytes by chance.
func noise(seed int64, n int) []byte {
	b := make([]byte, n)
	rand.New(rand.NewSource(seed)).Read(b)
	return b
}

// slope: n bytes of two samples in turns, one that goes up and one that goes down; their differences pack.
func slope(n int) []byte {
	b := make([]byte, n)
	for i := range b {
		b[i] = byte(i / 2 * 3)
		if i%2 == 1 {
			b[i] = byte(200 - i)
		}
	}
	return b
}

// text: n bytes that pack as they are.
func text(n int) []byte {
	var b []byte
	for len(b) < n {
		b = append(b, "the filters of a block, one after the other: "...)
		b = append(b, byte(len(b)), byte(len(b)/256))
	}
	return b[:n]
}

// sevens: the bytes of a number by chapter 2's words: groups of seven bits, by division.
func sevens(v uint64) []byte {
	b := []byte{}
	for v >= 128 {
		b = append(b, byte(v%128)+128)
		v /= 128
	}
	return append(b, byte(v))
}

// putByWords: a filter's bytes, by the chapter's words.
func putByWords(f api.Filter) []byte {
	return append(append(sevens(f.ID), sevens(uint64(len(f.Props)))...), f.Props...)
}

// numberByWords: chapter 2's words on reading a number.
func numberByWords(b []byte) (uint64, int, api.Errno) {
	v := uint64(0)
	for i := 0; ; i++ {
		switch {
		case i == len(b):
			return 0, 0, api.ErrTruncated
		case i == 8 && b[i] >= 128, i > 0 && b[i] == 0:
			return 0, 0, api.ErrFormat
		}
		v += uint64(b[i]%128) << (7 * i)
		if b[i] < 128 {
			return v, i + 1, api.OK
		}
	}
}

// getByWords: Get, sentence by sentence of P20.2.
func getByWords(b []byte) (api.Filter, int, api.Errno) {
	id, n, errno := numberByWords(b)
	if errno != api.OK {
		return api.Filter{}, 0, errno
	}
	count, m, errno := numberByWords(b[n:])
	if errno != api.OK {
		return api.Filter{}, 0, errno
	}
	if uint64(len(b)-n-m) < count {
		return api.Filter{}, 0, api.ErrTruncated
	}
	end := n + m + int(count)
	return api.Filter{ID: id, Props: b[n+m : end]}, end, api.OK
}

// readByWords: Read, of the chapter's words on chains.
func readByWords(l []api.Filter) (int, int, api.Errno) {
	isDelta := func(f api.Filter) bool { return f.ID == 3 && len(f.Props) == 1 }
	isLZMA2 := func(f api.Filter) bool { return f.ID == 33 && len(f.Props) == 1 && f.Props[0] <= 40 }
	switch {
	case len(l) == 1 && isLZMA2(l[0]):
		return 0, dicts()[l[0].Props[0]], api.OK
	case len(l) == 2 && isDelta(l[0]) && isLZMA2(l[1]):
		return int(l[0].Props[0]) + 1, dicts()[l[1].Props[0]], api.OK
	}
	return 0, 0, api.ErrUnsupported
}

// dicts: all that a byte tells, by doubling and by halves more.
func dicts() []int {
	var all []int
	for n := 4096; n < 1<<32; n *= 2 {
		all = append(all, n, n+n/2)
	}
	return append(all, 1<<32-1)
}

// legalByWords: is it legal, by the document's words?
func legalByWords(c api.Config) bool {
	p := c.Props
	return (c.Check == 0 || c.Check == 1 || c.Check == 4 || c.Check == 10) && c.Delta >= 0 && c.Delta <= 256 &&
		p.LC >= 0 && p.LC <= 4 && p.LP >= 0 && p.LP <= 4 && p.LC+p.LP <= 4 && p.PB >= 0 && p.PB <= 4 &&
		c.Dict >= 4096 && c.Dict <= 67108864 && c.Block >= 1 && c.Block <= 2147483648 && c.Mode >= 0 && c.Mode <= 2
}

// ofByWords: the chain of a legal configuration: the least byte that tells as much.
func ofByWords(c api.Config) []api.Filter {
	least := byte(0)
	for dicts()[least] < c.Dict {
		least++
	}
	if c.Delta == 0 {
		return []api.Filter{lzma(least)}
	}
	return []api.Filter{apart(c.Delta), lzma(least)}
}

// far: numbers that are in no range of a configuration's fields, and those that come into one where an int is cut short.
var far = []int{math.MinInt, math.MinInt + 1, -1 << 32, -1<<32 + 1, -1<<32 + 4096, -4096, -257, -256, -2, 1 << 33, 1<<33 + 1, 1<<33 + 4096, 1 << 62, math.MaxInt - 1, math.MaxInt}

// field: one of a configuration's, the values that are legal and those that are not.
type field struct {
	name  string
	set   func(c *api.Config, v int)
	right []int
	wrong []int
}

// fields: at all edges. Those of LC and LP are legal where the other one is 0.
func fields() []field {
	return []field{
		{"Check", func(c *api.Config, v int) { c.Check = v }, []int{0, 1, 4, 10}, []int{-1, 2, 3, 5, 6, 7, 8, 9, 11, 12, 13, 14, 15, 16, 17, 20, 26, 256, 260}},
		{"Delta", func(c *api.Config, v int) { c.Delta = v }, []int{0, 1, 2, 255, 256}, []int{-1, 257, 258, 512, 513, 65536}},
		{"LC", func(c *api.Config, v int) { c.Props = api.Props{LC: v} }, []int{0, 1, 2, 3, 4}, []int{-1, 5, 6, 8, 9, 256}},
		{"LP", func(c *api.Config, v int) { c.Props = api.Props{LP: v} }, []int{0, 1, 2, 3, 4}, []int{-1, 5, 6, 256}},
		{"PB", func(c *api.Config, v int) { c.Props.PB = v }, []int{0, 1, 2, 3, 4}, []int{-1, 5, 6, 256}},
		{"Dict", func(c *api.Config, v int) { c.Dict = v }, []int{4096, 4097, 6144, 8192, 65536, 67108863, 67108864}, []int{-1, 0, 1, 4094, 4095, 67108865, 67108866, 1<<32 - 1, 1 << 32}},
		{"Block", func(c *api.Config, v int) { c.Block = v }, []int{1, 2, 100, 65536, 1<<31 - 1, 1 << 31}, []int{-1, 0, 1<<31 + 1, 1<<31 + 2, 1<<32 - 1, 1 << 32}},
		{"Mode", func(c *api.Config, v int) { c.Mode = v }, []int{0, 1, 2}, []int{-1, 3, 4, 256}},
	}
}

// wantPut: just these bytes.
func wantPut(t *testing.T, f api.Filter, want ...byte) {
	t.Helper()
	if b, errno := chain.Put(f); !bytes.Equal(b, want) || errno != api.OK {
		t.Errorf("Put(%s): %s, error %d; want %s", told(f), shown(b), errno, shown(want))
	}
}

// wantGet: this filter, which has n of the bytes.
func wantGet(t *testing.T, b []byte, want api.Filter, n int) {
	t.Helper()
	if f, m, errno := chain.Get(b); !same(f, want) || m != n || errno != api.OK {
		t.Errorf("Get(%s): %s, %d, error %d; want %s, %d", shown(b), told(f), m, errno, told(want), n)
	}
}

// wantNoGet: refused so, and every other result is zero.
func wantNoGet(t *testing.T, b []byte, want api.Errno) {
	t.Helper()
	if f, n, errno := chain.Get(b); f.ID != 0 || len(f.Props) != 0 || n != 0 || errno != want {
		t.Errorf("Get(%s): %s, %d, error %d; want error %d", shown(b), told(f), n, errno, want)
	}
}

// wantRead: what the chain tells.
func wantRead(t *testing.T, dist, dict int, l ...api.Filter) {
	t.Helper()
	if a, b, errno := chain.Read(l...); a != dist || b != dict || errno != api.OK {
		t.Errorf("Read(%s): %d, %d, error %d; want %d, %d", told(l...), a, b, errno, dist, dict)
	}
}

// wantNoRead: it is no chain that is read here.
func wantNoRead(t *testing.T, l ...api.Filter) {
	t.Helper()
	if a, b, errno := chain.Read(l...); a != 0 || b != 0 || errno != api.ErrUnsupported {
		t.Errorf("Read(%s): %d, %d, error %d; want error %d", told(l...), a, b, errno, api.ErrUnsupported)
	}
}

// wantOf: this chain.
func wantOf(t *testing.T, c api.Config, want ...api.Filter) {
	t.Helper()
	if l, errno := chain.Of(c); !sameLists(l, want) || errno != api.OK {
		t.Errorf("Of(%+v): %s, error %d; want %s", c, told(l...), errno, told(want...))
	}
}

// sameLists: filter by filter.
func sameLists(a, b []api.Filter) bool {
	if len(a) != len(b) {
		return false
	}
	for i := range a {
		if !same(a[i], b[i]) {
			return false
		}
	}
	return true
}

// chainOf: the chain of a configuration that is legal.
func chainOf(t *testing.T, c api.Config) []api.Filter {
	t.Helper()
	l, errno := chain.Of(c)
	if errno != api.OK {
		t.Fatalf("Of(%+v): error %d", c, errno)
	}
	return l
}

// encoded: of a configuration that is legal.
func encoded(t *testing.T, data []byte, c api.Config) []byte {
	t.Helper()
	b, errno := chain.Encode(data, c)
	if errno != api.OK {
		t.Fatalf("Encode(%d bytes, %+v): error %d", len(data), c, errno)
	}
	return b
}

// sizes: what is told of a row.
type sizes struct{ packed, plain int }

// untold: neither.
var untold = sizes{-1, -1}

// wantData: just these data, and how many bytes the row has.
func wantData(t *testing.T, b []byte, mem int, s sizes, data []byte, n int, l ...api.Filter) {
	t.Helper()
	d, m, errno := chain.Decode(b, mem, s.packed, s.plain, l...)
	if !bytes.Equal(d, data) || m != n || errno != api.OK {
		t.Errorf("Decode(%s, %d, %v, %s): %s, %d, error %d; want %s, %d", shown(b), mem, s, told(l...), shown(d), m, errno, shown(data), n)
	}
}

// wantFault: this error at this place, and no data.
func wantFault(t *testing.T, b []byte, mem int, s sizes, want api.Errno, at int, l ...api.Filter) {
	t.Helper()
	d, m, errno := chain.Decode(b, mem, s.packed, s.plain, l...)
	if len(d) != 0 || m != at || errno != want {
		t.Errorf("Decode(%s, %d, %v, %s): %s, %d, error %d; want error %d at %d", shown(b), mem, s, told(l...), shown(d), m, errno, want, at)
	}
}

// shown: the front of bytes in base sixteen.
func shown(b []byte) string {
	const digits = "0123456789ABCDEF"
	s := ""
	for _, c := range b[:min(40, len(b))] {
		s += string([]byte{digits[c>>4], digits[c&15], ' '})
	}
	if len(b) > 40 {
		s += ".."
	}
	return "[" + s + "]"
}

// told: filters as they would lie in a header.
func told(l ...api.Filter) string {
	s := "{"
	for _, f := range l {
		s += shown(putByWords(f))
	}
	return s + "}"
}

// withRoom: b, and behind it room with other bytes in it.
func withRoom(b []byte) []byte {
	room := append(bytes.Clone(b), 0xAA, 0, 0xE0, 1, 0xFF, 0x5D, 2, 0x80, 0x7F)
	return room[:len(b):len(room)]
}

// spoil: all bytes, those of the spare room too; and then it is lengthened.
func spoil(b []byte) {
	for i := range b[:cap(b)] {
		b[:cap(b)][i] ^= 0xFF
	}
	_ = append(b, 1, 2, 3, 4, 5)
}

// spoilFilters: likewise of filters, and of their properties.
func spoilFilters(l []api.Filter) {
	for i := range l[:cap(l)] {
		spoil(l[:cap(l)][i].Props)
		l[:cap(l)][i] = filter(77, 7, 7)
	}
	_ = append(l, filter(78), filter(79, 9))
}
