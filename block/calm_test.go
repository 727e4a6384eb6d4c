package block_test

import (
	"bytes"
	"math"
	"math/rand"
	"runtime"
	"sync"
	"testing"

	"pith/api"
	"pith/block"
)

// extremes: of every int that is handed in.
var extremes = []int{math.MinInt, math.MinInt + 1, -4097, -2, -1, 0, 1, 2, 4, 10, 15, 16, 4095, 4096, 1<<31 - 1, 1 << 31, 1<<32 - 1, 1 << 32, math.MaxInt - 1, math.MaxInt}

// P22.8: every call of Encode ends, and none panics, at all edges.
func TestEncodeEnds(t *testing.T) {
	for _, x := range extremes {
		for _, y := range extremes {
			for _, c := range []api.Config{
				{Check: x, Delta: y, Dict: 4096, Block: 1}, {Dict: x, Block: y}, {Props: api.Props{LC: x, LP: y}, Dict: 4096, Block: 1}, {Props: api.Props{LP: x, PB: y}, Dict: 4096, Block: 4}, {Mode: x, Delta: y, Dict: 4096, Block: 4},
				{Check: x, Delta: y, Props: api.Props{LC: x, LP: y, PB: x}, Dict: y, Block: x, Mode: y},
			} {
				for _, data := range [][]byte{nil, {1}, []byte("abcd"), text(30)} {
					wantEncodedByWords(t, data, c)
				}
			}
		}
	}
}

// P22.8: every call of Decode ends, and none panics: each kind and limit, bytes by chance, and such as begin as a block does.
func TestDecodeEnds(t *testing.T) {
	for _, b := range [][]byte{nil, {0}, {255}, abcBlock(), summedBlock(), abcBlock()[:15], laid(headed(t, math.MaxInt, math.MaxInt, 0, apart(256), lzma(40)), []byte{0xFF, 0xFF, 0xFF, 0xFF, 0xFF, 0x5D, 0}, nil)} {
		for _, kind := range extremes {
			for _, mem := range extremes {
				wantDecodedByWords(t, b, kind, mem)
			}
		}
	}
	r := rand.New(rand.NewSource(228))
	for n := range 300 {
		b := noise(int64(n), n)
		wantDecodedByWords(t, b, kinds[n%4], 1<<32)
		for _, first := range []byte{0, 1, 2, 0x80, 0xE0} {
			row := append([]byte{first}, b...)
			wantDecodedByWords(t, join(emptyHeader, row), kinds[n%4], 4096)
			wantDecodedByWords(t, join(headed(t, 1+r.Intn(n+20), r.Intn(n+20), n%3, apart(1+n%256), lzma(byte(n%41))), row), kinds[n%4], 1<<32)
		}
	}
}

// P22.8: Encode changes nothing of the data, nor of the room behind them, and keeps nothing; its answers are new memory.
func TestEncodeTakesNothing(t *testing.T) {
	for _, c := range append(shapes(), with(2, 0, 0), with(0, 3, 0), api.Config{Dict: 4096, Block: 3}) {
		for _, own := range [][]byte{nil, {5}, text(400), slope(400), noise(6, 400)} {
			data := withRoom(own)
			was := bytes.Clone(data[:cap(data)])
			want, record, wantErrno := encodeByWords(t, own, c)
			one, r, errno := block.Encode(data, c)
			other, _, _ := block.Encode(data, c)
			if !bytes.Equal(data[:cap(data)], was) {
				t.Fatalf("%+v: the data became others", c)
			}
			if !bytes.Equal(one, want) || r != record || errno != wantErrno {
				t.Fatalf("%+v: %s, %+v, error %d", c, shown(one), r, errno)
			}
			spoil(one)
			if !bytes.Equal(data[:cap(data)], was) || !bytes.Equal(other, want) {
				t.Fatalf("%+v: an answer shares memory", c)
			}
			wantEncodedByWords(t, own, c)
			spoil(data)
			if !bytes.Equal(other, want) {
				t.Fatalf("%+v: the answer hangs on the data later", c)
			}
		}
	}
}

// P22.8: Decode changes nothing of the bytes, nor of the room behind them, whatever it answers; the room does not count.
func TestDecodeChangesNothing(t *testing.T) {
	var all [][]byte
	for _, c := range shapes() {
		b, _ := made(t, slope(200), c)
		all = append(all, b, b[:len(b)-1], b[:len(b)-5], b[:20], b[:13], b[:12], b[:7], turned(b, 5, 1), turned(b, 12, 7), turned(b, 25, 1), turned(b, len(b)-1, 1), append(bytes.Clone(b), 1, 2, 3))
	}
	for _, b := range append(all, nil, []byte{0}, abcBlock(), turned(abcBlock(), 19, 1), abcBlock()[:19]) {
		given := withRoom(b)
		was := bytes.Clone(given[:cap(given)])
		for _, kind := range []int{0, 1, 4, 10, 2, -1} {
			for _, mem := range []int{0, 4096} {
				wantDecodedByWords(t, given, kind, mem)
			}
		}
		if !bytes.Equal(given[:cap(given)], was) {
			t.Errorf("Decode: %s became %s", shown(was), shown(given[:cap(given)]))
		}
	}
}

// P22.8: Decode's data are new memory each time, and hang on the bytes no more.
func TestDecodeIsNewMemory(t *testing.T) {
	for _, c := range shapes() {
		for _, data := range [][]byte{[]byte("abc"), text(500), slope(500), noise(6, 500)} {
			b, r := made(t, data, c)
			was := bytes.Clone(b)
			one, other := decoded(b, c.Check, 4096), decoded(b, c.Check, 4096)
			spoil(one.data)
			if !bytes.Equal(b, was) || !bytes.Equal(other.data, data) {
				t.Fatalf("%+v: an answer shares memory", c)
			}
			wantDecoded(t, b, c.Check, 4096, data, r, len(b))
			spoil(b)
			if !bytes.Equal(other.data, data) {
				t.Fatalf("%+v: the data hang on the block later", c)
			}
			wantDecoded(t, was, c.Check, 4096, data, r, len(was))
		}
	}
}

// takenBy: how much memory a function takes in all.
func takenBy(f func()) uint64 {
	var before, behind runtime.MemStats
	runtime.ReadMemStats(&before)
	f()
	runtime.ReadMemStats(&behind)
	return behind.TotalAlloc - before.TotalAlloc
}

// P22.8, W7: memory is taken for bytes that are there, not for those that numbers tell, nor for those behind.
func TestMemoryIsTakenAsBytesAreThere(t *testing.T) {
	long := make([]byte, 16<<20)
	great := headed(t, math.MaxInt, math.MaxInt, 0, apart(256), lzma(40))
	var all [][]byte
	for _, b := range [][]byte{abcBlock(), summedBlock(), {0}, {2}, join(emptyHeader, make([]byte, 4)), laid(headed(t, 7, 3, 0, lzma(40)), []byte{1, 0, 2, 'a', 'b', 'c', 0}, nil), turned(abcBlock(), 19, 1), join(emptyHeader, []byte{3})} {
		all = append(all, join(b, long))
	}
	all = append(all, great, join(great, []byte{0xFF, 0xFF, 0xFF, 0xFF, 0xFF, 0x5D, 0}), join(great, []byte{1, 0xFF, 0xFF, 1, 2, 3}))
	if taken := takenBy(func() {
		for _, b := range all {
			for _, kind := range kinds {
				block.Decode(b, kind, 1<<32)
			}
		}
	}); taken > 10<<20 {
		t.Errorf("Decode takes %d bytes", taken)
	}
	c := with(10, api.ModeGreedy, 256)
	c.Dict, c.Block = api.MaxDict, api.MaxBlock
	if taken := takenBy(func() { block.Encode([]byte("abc"), c) }); taken > 4<<20 {
		t.Errorf("encoding a few bytes takes %d", taken)
	}
	c.Block = 1000
	if taken := takenBy(func() { block.Encode(long, c) }); taken > 1<<20 {
		t.Errorf("refusing many takes %d", taken)
	}
}

// W2: many at once, and one behind the other after whatever came before, each answers what it answers alone.
func TestManyAtOnce(t *testing.T) {
	c := with(4, api.ModeCheap, 2)
	data := slope(1000)
	b, r, _ := encodeByWords(t, data, c)
	short := c
	short.Block = 999
	var group sync.WaitGroup
	for range 8 {
		group.Go(func() {
			for range 20 {
				wantEncoded(t, data, c, b, r)
				wantNotEncoded(t, data, short, api.ErrRange)
				wantNotEncoded(t, data, api.Config{}, api.ErrConfig)
				wantDecoded(t, b, 4, 4096, data, r, len(b))
				wantFault(t, b, 4, 4095, api.ErrMemLimit, 0)
				wantFault(t, b, 11, 4096, api.ErrUnsupported, 0)
				wantFault(t, b[:len(b)-1], 4, 4096, api.ErrTruncated, len(b)-8)
				wantFault(t, turned(b, len(b)-1, 1), 4, 4096, api.ErrCheck, len(b)-8)
				wantFault(t, turned(b, 12, 1), 4, 4096, api.ErrFormat, 12+6)
			}
		})
	}
	group.Wait()
}
