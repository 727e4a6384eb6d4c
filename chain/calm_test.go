package chain_test

import (
	"bytes"
	"math"
	"runtime"
	"slices"
	"sync"
	"testing"

	"pith/api"
	"pith/chain"
)

// extremes: of every int that is handed in.
var extremes = []int{math.MinInt, math.MinInt + 1, -4097, -2, -1, 0, 1, 2, 4095, 4096, 1<<31 - 1, 1 << 31, 1<<32 - 1, 1 << 32, math.MaxInt - 1, math.MaxInt}

// P20.9: every call ends, and none panics, at all edges.
func TestEveryCallEnds(t *testing.T) {
	for _, x := range extremes {
		for _, y := range extremes {
			for _, c := range []api.Config{
				{Check: x, Delta: y, Dict: 4096, Block: 1}, {Dict: x, Block: y}, {Props: api.Props{LC: x, LP: y}, Dict: 4096, Block: 1}, {Props: api.Props{LP: x, PB: y}, Dict: 4096, Block: 1}, {Mode: x, Delta: y, Dict: 4096, Block: 1},
				{Check: x, Delta: y, Props: api.Props{LC: x, LP: y, PB: x}, Dict: y, Block: x, Mode: y},
			} {
				legal := chain.Legal(c)
				_, of := chain.Of(c)
				_, errno := chain.Encode([]byte("abcabcabc"), c)
				if legal != of || legal != errno || (legal == api.OK) != legalByWords(c) {
					t.Errorf("%+v: errors %d, %d, %d", c, legal, of, errno)
				}
			}
			for _, l := range [][]api.Filter{nil, {lzma(0)}, {apart(256), lzma(40)}, {lzma(41)}, {{}}, {{}, {}, {}}} {
				for _, mem := range extremes {
					wantDecodedByWords(t, abc, mem, sizes{x, y}, l...)
				}
			}
		}
	}
}

// P20.9: Put changes nothing of a filter, nor of the room behind its properties, and keeps nothing.
func TestPutTakesNothing(t *testing.T) {
	for _, n := range []int{0, 1, 2, 127, 128, 300} {
		for _, id := range []uint64{0, 33, 300, greatest, greatest + 1} {
			props := withRoom(noise(9, n))
			was := bytes.Clone(props[:cap(props)])
			f := api.Filter{ID: id, Props: props}
			b, _ := chain.Put(f)
			want := bytes.Clone(b)
			other, _ := chain.Put(f)
			if !bytes.Equal(props[:cap(props)], was) || f.ID != id {
				t.Fatalf("Put(%s) has changed it", told(f))
			}
			spoil(b)
			if !bytes.Equal(props[:cap(props)], was) || !bytes.Equal(other, want) {
				t.Fatalf("Put(%s): an answer shares memory", told(f))
			}
			spoil(props)
			if !bytes.Equal(other, want) {
				t.Fatalf("Put of %d properties: the answer hangs on them later", n)
			}
		}
	}
}

// P20.9: Get changes nothing of the bytes, nor of the room behind them; the properties are new memory.
func TestGetTakesNothing(t *testing.T) {
	for _, n := range []int{0, 1, 2, 127, 128, 300} {
		want := filter(300, noise(9, n)...)
		whole := putByWords(want)
		for _, size := range []int{0, 1, 2, len(whole) - 1, len(whole)} {
			b := withRoom(whole[:size])
			was := bytes.Clone(b[:cap(b)])
			f, m, errno := chain.Get(b)
			other, _, _ := chain.Get(b)
			if !bytes.Equal(b[:cap(b)], was) {
				t.Fatalf("Get of %d bytes has changed them", size)
			}
			if wantFilter, wantSize, e := getByWords(whole[:size]); !same(f, wantFilter) || m != wantSize || errno != e {
				t.Fatalf("Get of %d bytes: %s, %d, error %d", size, told(f), m, errno)
			}
			spoil(f.Props)
			if !bytes.Equal(b[:cap(b)], was) {
				t.Fatalf("Get of %d bytes: the properties share memory with them", size)
			}
			spoil(b)
			if size == len(whole) && !same(other, want) {
				t.Fatalf("Get of %d bytes: the properties hang on them later", size)
			}
		}
	}
}

// P20.9: Of's filters are new memory each time, and share none with one another.
func TestOfIsNewMemory(t *testing.T) {
	for _, dist := range []int{0, 1, 256} {
		c := usual
		c.Delta = dist
		want := ofByWords(c)
		for i := range want {
			one, other := chainOf(t, c), chainOf(t, c)
			spoil(one[i].Props)
			for k := range one {
				if k != i && !same(one[k], want[k]) {
					t.Errorf("distance %d: the filter %d shares memory with the filter %d", dist, k, i)
				}
			}
			spoilFilters(one)
			if !sameLists(other, want) {
				t.Errorf("distance %d: another answer became %s", dist, told(other...))
			}
			wantOf(t, c, want...)
		}
	}
}

// filtersWithRoom: a list with room behind it and behind each filter's properties; and a copy of it all.
func filtersWithRoom(l []api.Filter) (list, was []api.Filter) {
	for _, f := range append(slices.Clone(l), lzma(0), apart(5)) {
		list = append(list, api.Filter{ID: f.ID, Props: withRoom(f.Props)})
	}
	for _, f := range list {
		was = append(was, api.Filter{ID: f.ID, Props: bytes.Clone(f.Props[:cap(f.Props)])})
	}
	return list[:len(l)], was
}

// wantUnchanged: the list, its room, and the rooms in it.
func wantUnchanged(t *testing.T, what string, list, was []api.Filter) {
	t.Helper()
	for i, f := range list[:len(was)] {
		if f.Props = f.Props[:cap(f.Props)]; !same(f, was[i]) {
			t.Errorf("%s: the filter %d became %s; it was %s", what, i, told(f), told(was[i]))
		}
	}
}

// P20.9: Read and Decode change neither the filters nor their properties, nor the room behind these, nor the bytes; the room does not count.
func TestFiltersAreNotChanged(t *testing.T) {
	for _, l := range [][]api.Filter{nil, {}, {lzma(0)}, {lzma(41)}, {lzma(40)}, {apart(256), lzma(1)}, {apart(2)}, {lzma(0), apart(1)}, {filter(9), lzma(0)}, {filter(33)}, {apart(1), apart(1), lzma(0)}} {
		list, was := filtersWithRoom(l)
		wantReadByWords(t, list...)
		wantUnchanged(t, "Read", list, was)
		for _, b := range [][]byte{nil, {0}, abc, abc[:5], byOthers, byOthers[:20], {3}} {
			row := withRoom(b)
			rowWas := bytes.Clone(row[:cap(row)])
			for _, s := range []sizes{untold, {len(b), -1}, {len(b) + 1, 3}, {-2, 0}} {
				for _, mem := range []int{4095, 1 << 32} {
					wantDecodedByWords(t, row, mem, s, list...)
				}
			}
			wantUnchanged(t, "Decode", list, was)
			if !bytes.Equal(row[:cap(row)], rowWas) {
				t.Errorf("Decode: %s became %s", shown(rowWas), shown(row[:cap(row)]))
			}
		}
	}
}

// P20.9: Encode changes nothing of the data, nor of the room behind them, and keeps nothing; its answers are new memory.
func TestEncodeTakesNothing(t *testing.T) {
	for _, dist := range []int{0, 1, 2, 256} {
		for _, mode := range append(modes, 3) {
			c := usual
			c.Delta, c.Mode = dist, mode
			for _, b := range [][]byte{nil, {5}, text(400), slope(400), noise(6, 400)} {
				data := withRoom(b)
				was := bytes.Clone(data[:cap(data)])
				one, errno := chain.Encode(data, c)
				other, _ := chain.Encode(data, c)
				if !bytes.Equal(data[:cap(data)], was) {
					t.Fatalf("%+v: the data became others", c)
				}
				if errno != api.OK {
					continue
				}
				want := encodeByWords(t, b, c)
				spoil(one)
				if !bytes.Equal(data[:cap(data)], was) || !bytes.Equal(other, want) || !bytes.Equal(encoded(t, b, c), want) {
					t.Fatalf("%+v: an answer shares memory", c)
				}
				spoil(data)
				if !bytes.Equal(other, want) {
					t.Fatalf("%+v: the answer hangs on the data later", c)
				}
			}
		}
	}
}

// P20.9: Decode's answers are new memory, and hang neither on the bytes nor on the filters later.
func TestDecodeIsNewMemory(t *testing.T) {
	for _, l := range [][]api.Filter{{lzma(0)}, {apart(1), lzma(0)}, {apart(256), lzma(0)}} {
		for _, data := range [][]byte{[]byte("abc"), text(500), slope(500), noise(6, 500)} {
			dist, _, _ := chain.Read(l...)
			c := usual
			c.Delta = dist
			row := encoded(t, data, c)
			was := bytes.Clone(row)
			list, filters := filtersWithRoom(l)
			one, _, _ := chain.Decode(row, 4096, -1, -1, list...)
			other, _, _ := chain.Decode(row, 4096, -1, -1, list...)
			spoil(one)
			wantUnchanged(t, "Decode", list, filters)
			if !bytes.Equal(row, was) || !bytes.Equal(other, data) {
				t.Fatalf("distance %d: an answer shares memory", dist)
			}
			wantData(t, row, 4096, untold, data, len(row), list...)
			spoil(row)
			spoilFilters(list)
			if !bytes.Equal(other, data) {
				t.Fatalf("distance %d: the data hang on what was handed in later", dist)
			}
			wantData(t, was, 4096, untold, data, len(was), l...)
		}
	}
}

// takenBy: how much memory a function takes in all.
func takenBy(f func()) uint64 {
	var before, behind runtime.MemStats
	runtime.ReadMemStats(&before)
	f()
	runtime.ReadMemStats(&behind)
	return behind.TotalAlloc - before.TotalAlloc
}

// P20.9, W7: memory is taken for bytes that are there, not for those that numbers tell, nor for those behind.
func TestMemoryIsTakenAsBytesAreThere(t *testing.T) {
	long := make([]byte, 16<<20)
	far := append(append([]byte{0x21}, sevens(1<<40)...), long[:100]...)
	few := append([]byte{0x21, 1, 0}, long...)
	end := append([]byte{0}, long...)
	if taken := takenBy(func() {
		for range 10 {
			chain.Get(far)
			chain.Get(few)
			chain.Decode(end, 1<<32, -1, -1, apart(256), lzma(40))
			chain.Decode(abc, 1<<32, -1, -1, lzma(40))
			chain.Decode([]byte{0xFF, 0xFF, 0xFF, 0xFF, 0xFF, 0x5D, 0}, 1<<32, -1, math.MaxInt, lzma(40))
		}
	}); taken > 10<<20 {
		t.Errorf("%d bytes are taken", taken)
	}
	c := usual
	c.Dict, c.Block = api.MaxDict, api.MaxBlock
	if taken := takenBy(func() { chain.Encode([]byte("abc"), c) }); taken > 4<<20 {
		t.Errorf("encoding a few bytes takes %d", taken)
	}
}

// W2: many at once, and one behind the other after whatever came before, each answers what it answers alone.
func TestManyAtOnce(t *testing.T) {
	c := usual
	c.Delta = 2
	data := slope(2000)
	row := encodeByWords(t, data, c)
	list := ofByWords(c)
	var group sync.WaitGroup
	for range 8 {
		group.Go(func() {
			for range 20 {
				if b, errno := chain.Encode(data, c); !bytes.Equal(b, row) || errno != api.OK {
					t.Errorf("Encode: %s, error %d", shown(b), errno)
				}
				wantData(t, row, 4096, untold, data, len(row), list...)
				wantFault(t, row[:9], 4096, untold, api.ErrTruncated, 6, list...)
				wantOf(t, c, list...)
				wantRead(t, 2, 4096, list...)
				wantNoRead(t, list[0])
				wantRead(t, 0, 4096, list[1])
				wantPut(t, list[0], 3, 1, 1)
				wantGet(t, []byte{3, 1, 1, 9}, list[0], 3)
				wantLegal(t, api.Config{}, api.ErrConfig)
				wantLegal(t, c, api.OK)
			}
		})
	}
	group.Wait()
}
