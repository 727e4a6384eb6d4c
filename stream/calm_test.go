package stream_test

import (
	"bytes"
	"math"
	"math/rand"
	"runtime"
	"slices"
	"sync"
	"testing"

	"pith/api"
	"pith/stream"
)

// extremes: of every int that is handed in.
var extremes = []int{math.MinInt, math.MinInt + 1, -4097, -2, -1, 0, 1, 2, 4, 10, 15, 16, 4095, 4096, 1<<31 - 1, 1 << 31, 1<<32 - 1, 1 << 32, math.MaxInt - 1, math.MaxInt}

// P25.8: every call of Encode ends, and none panics, at all edges.
func TestEncodeEnds(t *testing.T) {
	for _, x := range extremes {
		for _, y := range extremes {
			for _, c := range []api.Config{
				{Check: x, Delta: y, Dict: 4096, Block: 1}, {Dict: x, Block: y}, {Props: api.Props{LC: x, LP: y}, Dict: 4096, Block: 1}, {Props: api.Props{LP: x, PB: y}, Dict: 4096, Block: 4}, {Mode: x, Delta: y, Dict: 4096, Block: 4},
				{Check: x, Delta: y, Props: api.Props{LC: x, LP: y, PB: x}, Dict: y, Block: x, Mode: y},
			} {
				for _, data := range [][]byte{nil, {1}, []byte("abcde"), text(30)} {
					if isLegal(c) {
						wantEncoded(t, data, c, encodeByWords(t, data, c))
					} else {
						wantNotEncoded(t, data, c)
					}
				}
			}
		}
	}
}

// P25.8: every call of Decode and Places ends, and none panics: each limit, bytes by chance, and such as begin as a file does.
func TestDecodeEnds(t *testing.T) {
	great := headed(t, math.MaxInt, math.MaxInt, 0, apart(256), lzma(40))
	for _, f := range [][]byte{nil, {0}, {0xFD}, emptyFile(), abcFile(), abcFile()[:27], join(headerOf(0, 4), great), join(headerOf(0, 4), great, []byte{0xFF, 0xFF, 0xFF, 0xFF, 0xFF, 0x5D, 0}), join(headerOf(0, 4), rowOf(1<<63-1))} {
		for _, mem := range extremes {
			wantByWords(t, f, mem)
		}
	}
	for n := range 300 {
		b := noise(int64(n), n)
		wantByWords(t, b, 1<<32)
		for _, kind := range kinds {
			header := headerOf(0, byte(kind))
			wantByWords(t, join(header, b), 1<<32)
			wantByWords(t, join(header, []byte{0}, b), 1<<32)
			wantByWords(t, join(header, []byte{0, 0}, b), 1<<32)
			wantByWords(t, join(header, emptyFile()[12:20], b), 1<<32)
			wantByWords(t, join(header, sealed(2, 0, 0x21, 1, 0, 0, 0, 0), b), 1<<32)
			wantByWords(t, join(header, cut(t, text(n), with(kind, 0, 0, 300)).b, b), 1<<32)
		}
	}
	for x := range 256 {
		wantByWords(t, join(headerOf(0, 0), bytes.Repeat([]byte{byte(x)}, 1100)), 1<<32)
	}
}

// P25.2: any bytes and limits: files that are spoilt, cut and lengthened, some with the right sums of the headers.
func TestDecodeByTheWords(t *testing.T) {
	t.Parallel()
	r := rand.New(rand.NewSource(256))
	var all [][]byte
	for i, c := range shapes(60) {
		all = append(all, made(t, [][]byte{nil, text(100), slope(100), noise(2, 30)}[i%4], c))
	}
	met := map[error]int{}
	for range 8000 {
		f := bytes.Clone(all[r.Intn(len(all))])
		for range r.Intn(3) {
			f[r.Intn(len(f))] ^= 1 << r.Intn(8)
		}
		if r.Intn(2) == 0 {
			f = join(headerOf(f[6], f[7]), f[12:])
		}
		if len(f) > 32 && r.Intn(2) == 0 {
			f = resealed(f, 12, 12)
		}
		if r.Intn(4) == 0 {
			f = f[:r.Intn(len(f)+1)]
		}
		f = append(f, noise(r.Int63(), max(0, r.Intn(8)-5))...)
		mem := []int{-1, 4095, 4096, 4096, 1 << 32, math.MaxInt}[r.Intn(6)]
		met[wantByWords(t, f, mem).err]++
	}
	for _, want := range []error{nil, stream.Truncated, stream.Format, stream.Check, stream.Unsupported, stream.MemLimit} {
		if met[want] < 20 {
			t.Errorf("what was met: %v", met)
		}
	}
}

// P25.8, W4: nil and empty bytes are the same.
func TestNilAndEmptyBytes(t *testing.T) {
	for _, b := range [][]byte{nil, {}, make([]byte, 0, 100), abcFile()[:0]} {
		wantEncoded(t, b, with(4, 0, 0, 1), emptyFile())
		wantFault(t, b, 4096, stream.Truncated, 0)
	}
}

// P25.8: Encode changes nothing of the data, nor of the room behind them, and keeps nothing; its answers are new memory.
func TestEncodeTakesNothing(t *testing.T) {
	for _, c := range append(shapes(50), with(1, 0, 0, 1), with(0, 0, 0, 65536)) {
		for _, own := range [][]byte{nil, {5}, text(50), text(120), slope(90)} {
			data := withRoom(own)
			was := bytes.Clone(data[:cap(data)])
			want := encodeByWords(t, own, c)
			one, other := made(t, data, c), made(t, data, c)
			if !bytes.Equal(data[:cap(data)], was) || !bytes.Equal(one, want) {
				t.Fatalf("%+v: the data became others, or the file is %s", c, shown(one))
			}
			spoil(one)
			if !bytes.Equal(data[:cap(data)], was) || !bytes.Equal(other, want) {
				t.Fatalf("%+v: an answer shares memory", c)
			}
			wantEncoded(t, own, c, want)
			spoil(data)
			if !bytes.Equal(other, want) {
				t.Fatalf("%+v: the answer hangs on the data later", c)
			}
		}
	}
	for _, c := range []api.Config{{}, with(2, 0, 0, 9), with(0, 3, 0, 9)} {
		data := withRoom(text(40))
		was := bytes.Clone(data[:cap(data)])
		wantNotEncoded(t, data, c)
		if !bytes.Equal(data[:cap(data)], was) {
			t.Errorf("%+v: the data became others", c)
		}
	}
}

// P25.8: Decode and Places change nothing of the bytes, nor of the room behind them, whatever they answer; the room does not count.
func TestReadingChangesNothing(t *testing.T) {
	f := severalBlocks(t)
	all := [][]byte{nil, {0}, emptyFile(), abcFile(), abcFile()[:40], emptyFile()[:20], f, f[:len(f)-1], f[:len(f)-12], f[:len(f)-16], f[:12], f[:11], append(bytes.Clone(f), 1, 2, 3)}
	for _, one := range wrongs(t, f) {
		all = append(all, turned(f, one.at, one.mask))
	}
	for _, b := range all {
		given := withRoom(b)
		was := bytes.Clone(given[:cap(given)])
		for _, mem := range []int{0, 4096} {
			wantByWords(t, given, mem)
		}
		if !bytes.Equal(given[:cap(given)], was) {
			t.Errorf("reading: %s became %s", shown(was), shown(given[:cap(given)]))
		}
	}
}

// P25.8: what is answered is new memory each time, and hangs on the file no more.
func TestReadingIsNewMemory(t *testing.T) {
	for _, size := range []int{60, 1000} {
		for _, c := range shapes(size) {
			data := text(150)
			f := made(t, data, c)
			was := bytes.Clone(f)
			one, _ := stream.Decode(f, 4096)
			other, _ := stream.Decode(f, 4096)
			l, _, _ := stream.Places(f, 4096)
			places := slices.Clone(l)
			m, _, _ := stream.Places(f, 4096)
			spoil(one)
			for i := range l[:cap(l)] {
				l[:cap(l)][i] = place(77, 78, 79, 80)
			}
			_ = append(l, place(1, 2, 3, 4))
			if !bytes.Equal(f, was) || !bytes.Equal(other, data) || !slices.Equal(m, places) {
				t.Fatalf("%+v: an answer shares memory", c)
			}
			wantData(t, f, 4096, data)
			spoil(f)
			if !bytes.Equal(other, data) || !slices.Equal(m, places) {
				t.Fatalf("%+v: an answer hangs on the file later", c)
			}
			wantData(t, was, 4096, data)
		}
	}
}

// takenBy: how much memory a function takes in all.
func takenBy(f func()) uint64 {
	var before, behind runtime.MemStats
	runtime.ReadMemStats(&before)
	f()
	runtime.ReadMemStats(&behind)
	return behind.TotalAlloc - before.TotalAlloc
}

// P25.8, W7: memory is taken for bytes that are there, not for those that numbers tell, nor for those behind a fault.
func TestMemoryIsTakenAsBytesAreThere(t *testing.T) {
	long := make([]byte, 16<<20)
	great := headed(t, math.MaxInt, math.MaxInt, 0, apart(256), lzma(40))
	var all [][]byte
	for _, f := range [][]byte{emptyFile(), abcFile(), headerOf(0, 4), headerOf(0, 3), abcFile()[:24], turned(abcFile(), 5, 1), join(headerOf(0, 4), rowOf(1<<40)), turned(abcFile(), 33, 1), turned(abcFile(), 37, 1)} {
		all = append(all, join(f, long))
	}
	front := join(headerOf(0, 4), great)
	all = append(all, front, join(front, []byte{0xFF, 0xFF, 0xFF, 0xFF, 0xFF, 0x5D, 0}), join(front, []byte{1, 0xFF, 0xFF, 1, 2, 3}), join(abcFile()[:32], rowOf(1<<63-1)), join(abcFile()[:40], footerOf(1<<34, 0, 0)))
	if taken := takenBy(func() {
		for _, f := range all {
			stream.Decode(f, 1<<32)
			stream.Places(f, 1<<32)
		}
	}); taken > 10<<20 {
		t.Errorf("reading takes %d bytes", taken)
	}
	c := with(10, api.ModeGreedy, 256, api.MaxBlock)
	c.Dict = api.MaxDict
	if taken := takenBy(func() { stream.Encode([]byte("abc"), c) }); taken > 4<<20 {
		t.Errorf("encoding a few bytes takes %d", taken)
	}
	c.Block = 0
	if taken := takenBy(func() { stream.Encode(long, c) }); taken > 1<<20 {
		t.Errorf("refusing many takes %d", taken)
	}
}

// P25.3: Places keeps no data.
func TestPlacesKeepsNoData(t *testing.T) {
	c := with(0, api.ModeRaw, 0, 1<<20)
	f := made(t, make([]byte, 32<<20), c)
	data := takenBy(func() { stream.Decode(f, 4096) })
	places := takenBy(func() { stream.Places(f, 4096) })
	if places+32<<20 > data {
		t.Errorf("Places takes %d bytes, Decode %d", places, data)
	}
}

// W2: many at once, and one behind the other after whatever came before, each answers what it answers alone.
func TestManyAtOnce(t *testing.T) {
	c := with(4, api.ModeCheap, 2, 70)
	data := text(200)
	f := encodeByWords(t, data, c)
	read := decodeByWords(f, 4096)
	var group sync.WaitGroup
	for range 8 {
		group.Go(func() {
			for range 20 {
				wantEncoded(t, data, c, f)
				wantNotEncoded(t, data, api.Config{})
				wantRead(t, f, 4096, read)
				wantFault(t, f, 4095, stream.MemLimit, 12)
				wantFault(t, f[:len(f)-1], 4096, stream.Truncated, len(f)-12)
				wantFault(t, turned(f, len(f)-12, 1), 4096, stream.Check, len(f)-12)
				wantFault(t, turned(f, 24, 0x7C), 4096, stream.Format, 24)
				wantFault(t, headerOf(0, 2), 4096, stream.Unsupported, 0)
			}
		})
	}
	group.Wait()
}
