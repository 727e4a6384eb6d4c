package chunk_test

import (
	"bytes"
	"runtime"
	"slices"
	"sync"
	"testing"

	"pith/api"
	"pith/chunk"
)

// P17.6: every call ends, and none panics, at all edges.
func TestEveryCallEnds(t *testing.T) {
	for _, x := range slices.Concat(noKinds, sizes) {
		chunk.ByteDict(x)
		chunk.DictByte(x)
		for kind := -1; kind <= 7; kind++ {
			for _, p := range slices.Concat(someProps, noProps) {
				for _, y := range []int{x, 1, -x} {
					b, errno := chunk.Put(api.Chunk{Kind: kind, Size: x, Packed: y, Props: p})
					if (errno == api.OK) != (len(b) > 0) {
						t.Errorf("kind %d, sizes %d and %d, %+v: % X, error %d", kind, x, y, p, b, errno)
					}
				}
			}
		}
		o := chunk.NewOrder()
		for range 3 {
			o.Next(x)
		}
	}
}

// P17.6: what is handed in to Get is as it was, with the room behind it, also where it is refused.
func TestGetChangesNothing(t *testing.T) {
	for _, head := range [][]byte{{0}, {1, 2, 3}, {2, 255, 255}, {0x83, 1, 2, 3, 4}, {0xC4, 1, 2, 3, 4, 0x5D}, {0xE4, 1, 2, 3, 4, 0xFF}, {0x7F, 1}, {0x80, 1}} {
		room := append(slices.Clone(head), 0xAA, 0xBB, 0xCC, 0xDD, 0xEE, 0xFF, 0x11)
		was := slices.Clone(room)
		for n := range len(head) + 1 {
			c, m, errno := chunk.Get(room[:n])
			again, k, errno2 := chunk.Get(slices.Clone(room[:n]))
			if c != again || m != k || errno != errno2 {
				t.Errorf("Get(% X) hangs on what stands behind it", room[:n])
			}
			if !bytes.Equal(room, was) {
				t.Fatalf("Get(% X) changed them or what is behind: % X", was[:n], room)
			}
		}
	}
}

// P17.6: an answer of Put that is written over and lengthened shows in no later one.
func TestPutAnswersNewMemory(t *testing.T) {
	for _, c := range heads() {
		want, _ := putByWords(c)
		b, _ := chunk.Put(c)
		other, _ := chunk.Put(c)
		full := b[:cap(b)]
		for i := range full {
			full[i] ^= 0xFF
		}
		_ = append(b, 1, 2, 3, 4, 5, 6, 7)
		if !bytes.Equal(other, want) {
			t.Fatalf("%+v: the other answer became % X", c, other)
		}
		if again, _ := chunk.Put(c); !bytes.Equal(again, want) {
			t.Fatalf("%+v: the later answer is % X", c, again)
		}
	}
}

// P17.6: what the caller does to the bytes later shows in nothing that was answered or will be.
func TestGetKeepsNothing(t *testing.T) {
	b := []byte{0xE0, 0, 2, 0, 6, 0x5D}
	want := api.Chunk{Kind: api.ChunkAll, Size: 3, Packed: 7, Props: usual}
	c, n, _ := chunk.Get(b)
	for i := range b {
		b[i] = 0xFF
	}
	if c != want || n != 6 {
		t.Errorf("the answer became %+v, %d", c, n)
	}
	wantNoGet(t, b, api.ErrFormat)
	wantGet(t, []byte{0xE0, 0, 2, 0, 6, 0x5D}, want, 6)
}

// P17.6, W7: Get of a long row of bytes takes memory for a head alone.
func TestGetOfLongBytesIsLittle(t *testing.T) {
	long := make([]byte, 8<<20)
	copy(long, []byte{0xE0, 0, 2, 0, 6, 0x5D})
	var before, behind runtime.MemStats
	runtime.ReadMemStats(&before)
	for range 100 {
		chunk.Get(long)
	}
	runtime.ReadMemStats(&behind)
	if taken := behind.TotalAlloc - before.TotalAlloc; taken > 1<<20 {
		t.Errorf("a hundred times Get of %d bytes takes %d", len(long), taken)
	}
}

// P17.6, W2: many at once, each answers what it answers alone.
func TestManyAtOnce(t *testing.T) {
	all := heads()
	var group sync.WaitGroup
	for worker := range 8 {
		group.Go(func() {
			o, words := chunk.NewOrder(), rowByWords{}
			for i := range all {
				c := all[(i*7+worker*31)%len(all)]
				want, _ := putByWords(c)
				b, errno := chunk.Put(c)
				back, n, errno2 := chunk.Get(b)
				if !bytes.Equal(b, want) || errno != api.OK || back != c || n != len(b) || errno2 != api.OK {
					t.Errorf("%+v: % X, error %d; back %+v, error %d", c, b, errno, back, errno2)
					return
				}
				if kind := c.Kind; kind != api.ChunkEnd && o.Next(kind) != words.next(kind) {
					t.Errorf("step %d: kind %d", i, kind)
					return
				}
			}
		})
	}
	group.Wait()
}
