package chunk_test

import (
	"bytes"
	"testing"

	"pith/api"
	"pith/chunk"
)

// P17.1: the chapter's examples.
func TestPutExamples(t *testing.T) {
	wantPut(t, api.Chunk{Kind: api.ChunkEnd}, 0x00)
	wantPut(t, api.Chunk{Kind: api.ChunkFirst, Size: 3, Packed: 3}, 0x01, 0x00, 0x02)
	wantPut(t, api.Chunk{Kind: api.ChunkRaw, Size: 65536, Packed: 65536}, 0x02, 0xFF, 0xFF)
	wantPut(t, api.Chunk{Kind: api.ChunkAll, Size: 3, Packed: 7, Props: usual}, 0xE0, 0x00, 0x02, 0x00, 0x06, 0x5D)
	wantPut(t, api.Chunk{Kind: api.ChunkSame, Size: 2097152, Packed: 65536}, 0x9F, 0xFF, 0xFF, 0xFF, 0xFF)
	wantPut(t, api.Chunk{Kind: api.ChunkState, Size: 65537, Packed: 1}, 0xA1, 0x00, 0x00, 0x00, 0x00)
	wantNoPut(t, api.Chunk{Kind: api.ChunkProps, Size: 1, Packed: 1, Props: api.Props{LC: 4, LP: 4}}, api.ErrConfig)
	wantNoPut(t, api.Chunk{Kind: api.ChunkRaw, Size: 3, Packed: 2}, api.ErrRange)
	wantNoPut(t, api.Chunk{Kind: api.ChunkSame, Size: 0, Packed: 1}, api.ErrRange)
	wantNoPut(t, api.Chunk{Kind: 7}, api.ErrConfig)
	wantNoPut(t, api.Chunk{Kind: api.ChunkEnd, Size: 1, Packed: 1}, api.ErrRange)
}

// P17.1: each kind, of an ordinary size: the highest byte stands first, and the properties behind.
func TestPutOfEachKind(t *testing.T) {
	const size, packed = 0x1A2B3C + 1, 0x4D5E + 1
	wantPut(t, api.Chunk{Kind: api.ChunkFirst, Size: packed, Packed: packed}, 0x01, 0x4D, 0x5E)
	wantPut(t, api.Chunk{Kind: api.ChunkRaw, Size: packed, Packed: packed}, 0x02, 0x4D, 0x5E)
	wantPut(t, api.Chunk{Kind: api.ChunkSame, Size: size, Packed: packed}, 0x9A, 0x2B, 0x3C, 0x4D, 0x5E)
	wantPut(t, api.Chunk{Kind: api.ChunkState, Size: size, Packed: packed}, 0xBA, 0x2B, 0x3C, 0x4D, 0x5E)
	wantPut(t, api.Chunk{Kind: api.ChunkProps, Size: size, Packed: packed}, 0xDA, 0x2B, 0x3C, 0x4D, 0x5E, 0x00)
	wantPut(t, api.Chunk{Kind: api.ChunkAll, Size: size, Packed: packed, Props: api.Props{LP: 4, PB: 4}}, 0xFA, 0x2B, 0x3C, 0x4D, 0x5E, 0xD8)
}

// P17.1: numbers that are no kind, whatever else stands there: ErrConfig, ahead of all others.
func TestPutOfNoKind(t *testing.T) {
	for _, kind := range noKinds {
		for _, size := range sizes {
			wantNoPut(t, api.Chunk{Kind: kind, Size: size, Packed: size}, api.ErrConfig)
			wantNoPut(t, api.Chunk{Kind: kind, Size: size, Packed: 1, Props: noProps[0]}, api.ErrConfig)
		}
	}
}

// P17.1: the end has no sizes.
func TestPutOfTheEnd(t *testing.T) {
	for _, n := range sizes {
		if n == 0 {
			continue
		}
		wantNoPut(t, api.Chunk{Size: n}, api.ErrRange)
		wantNoPut(t, api.Chunk{Packed: n}, api.ErrRange)
		wantNoPut(t, api.Chunk{Size: n, Packed: n}, api.ErrRange)
		wantNoPut(t, api.Chunk{Size: n, Packed: -n}, api.ErrRange)
	}
}

// P17.1: raw ones have from 1 to 65536 bytes, and Packed is the same.
func TestPutOfRawOnes(t *testing.T) {
	for kind := api.ChunkFirst; kind <= api.ChunkRaw; kind++ {
		wantPut(t, api.Chunk{Kind: kind, Size: 1, Packed: 1}, byte(kind), 0, 0)
		wantPut(t, api.Chunk{Kind: kind, Size: 256, Packed: 256}, byte(kind), 0, 255)
		wantPut(t, api.Chunk{Kind: kind, Size: 257, Packed: 257}, byte(kind), 1, 0)
		wantPut(t, api.Chunk{Kind: kind, Size: 65536, Packed: 65536}, byte(kind), 255, 255)
		for _, n := range []int{0, 65537, -1, 131072, 2097152, 1<<32 + 1} {
			wantNoPut(t, api.Chunk{Kind: kind, Size: n, Packed: n}, api.ErrRange)
		}
		for _, packed := range sizes {
			if packed != 100 {
				wantNoPut(t, api.Chunk{Kind: kind, Size: 100, Packed: packed}, api.ErrRange)
			}
			if packed != 65536 {
				wantNoPut(t, api.Chunk{Kind: kind, Size: 65536, Packed: packed}, api.ErrRange)
			}
		}
	}
}

// P17.1: packed ones have from 1 to 2097152 bytes, packed into 1 to 65536.
func TestPutOfPackedOnes(t *testing.T) {
	for kind := api.ChunkSame; kind <= api.ChunkAll; kind++ {
		first, tail := byte(128+32*(kind-3)), []byte(nil)
		if hasProps(kind) {
			tail = []byte{0}
		}
		put := func(size, packed int, want ...byte) {
			wantPut(t, api.Chunk{Kind: kind, Size: size, Packed: packed}, append(want, tail...)...)
		}
		put(1, 1, first, 0, 0, 0, 0)
		put(65536, 1, first, 255, 255, 0, 0)
		put(65537, 1, first+1, 0, 0, 0, 0)
		put(1, 65536, first, 0, 0, 255, 255)
		put(2097152, 65536, first+31, 255, 255, 255, 255)
		put(2097152-65536, 256, first+30, 255, 255, 0, 255)
		for _, n := range []int{0, 2097153, -1, -65536, 1<<32 + 1} {
			wantNoPut(t, api.Chunk{Kind: kind, Size: n, Packed: 1}, api.ErrRange)
			wantNoPut(t, api.Chunk{Kind: kind, Size: n, Packed: 65536}, api.ErrRange)
		}
		for _, n := range []int{0, 65537, -1, -65536, 131072, 1<<32 + 1} {
			wantNoPut(t, api.Chunk{Kind: kind, Size: 1, Packed: n}, api.ErrRange)
			wantNoPut(t, api.Chunk{Kind: kind, Size: 2097152, Packed: n}, api.ErrRange)
		}
	}
}

// P17.1: properties that are not allowed are refused in the two kinds that have some, behind the sizes; the others don't look at them.
func TestPutOfProperties(t *testing.T) {
	for _, p := range noProps {
		for _, kind := range []int{api.ChunkProps, api.ChunkAll} {
			wantNoPut(t, api.Chunk{Kind: kind, Size: 1, Packed: 1, Props: p}, api.ErrConfig)
			wantNoPut(t, api.Chunk{Kind: kind, Size: 0, Packed: 1, Props: p}, api.ErrRange)
			wantNoPut(t, api.Chunk{Kind: kind, Size: 1, Packed: 65537, Props: p}, api.ErrRange)
		}
		wantPut(t, api.Chunk{Props: p}, 0)
		wantPut(t, api.Chunk{Kind: api.ChunkFirst, Size: 2, Packed: 2, Props: p}, 1, 0, 1)
		wantPut(t, api.Chunk{Kind: api.ChunkRaw, Size: 2, Packed: 2, Props: p}, 2, 0, 1)
		wantPut(t, api.Chunk{Kind: api.ChunkSame, Size: 2, Packed: 3, Props: p}, 0x80, 0, 1, 0, 2)
		wantPut(t, api.Chunk{Kind: api.ChunkState, Size: 2, Packed: 3, Props: p}, 0xA0, 0, 1, 0, 2)
		wantNoPut(t, api.Chunk{Kind: api.ChunkState, Size: 0, Packed: 3, Props: p}, api.ErrRange)
	}
}

// P17.1: every kind with every pair of sizes at the edges, with and without properties that are allowed: what the words say.
func TestPutByTheWords(t *testing.T) {
	props := append(append([]api.Props{}, someProps...), noProps...)
	n := 0
	for kind := -2; kind <= 9; kind++ {
		for _, size := range sizes {
			for _, packed := range sizes {
				c := api.Chunk{Kind: kind, Size: size, Packed: packed, Props: props[n%len(props)]}
				n++
				want, wantErr := putByWords(c)
				if b, errno := chunk.Put(c); !bytes.Equal(b, want) || errno != wantErr {
					t.Fatalf("Put(%+v): % X, error %d; want % X, error %d", c, b, errno, want, wantErr)
				}
			}
		}
	}
}
