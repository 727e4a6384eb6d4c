package chunk_test

import (
	"bytes"
	"math/rand"
	"testing"

	"pith/api"
	"pith/chunk"
)

// without: the chunk as Get tells it: without the properties of a kind that has none.
func without(c api.Chunk) api.Chunk {
	if !hasProps(c.Kind) {
		c.Props = api.Props{}
	}
	return c
}

// P17.3: Get of Put's answer, with anything behind it, is the chunk and just its bytes.
func TestGetOfPut(t *testing.T) {
	r := rand.New(rand.NewSource(1731))
	for i, c := range heads() {
		if !hasProps(c.Kind) {
			c.Props = append(someProps, noProps...)[i%(len(someProps)+len(noProps))]
		}
		b, errno := chunk.Put(c)
		if errno != api.OK {
			t.Fatalf("Put(%+v): error %d", c, errno)
		}
		behind := make([]byte, r.Intn(8))
		r.Read(behind)
		wantGet(t, b, without(c), len(b))
		wantGet(t, append(b, behind...), without(c), len(b))
	}
}

// P17.3: likewise each size of a raw one, and each packed size, and every allowed properties.
func TestGetOfPutOfEachSize(t *testing.T) {
	for n := 1; n <= 65536; n++ {
		c := api.Chunk{Kind: api.ChunkFirst + n%2, Size: n, Packed: n}
		b, _ := chunk.Put(c)
		wantGet(t, b, c, 3)
		c = api.Chunk{Kind: api.ChunkSame + n%2, Size: 32 * n, Packed: n}
		b, _ = chunk.Put(c)
		wantGet(t, b, c, 5)
	}
	for lc := range 5 {
		for lp := range 5 - lc {
			for pb := range 5 {
				c := api.Chunk{Kind: api.ChunkProps + pb%2, Size: 32767 + lc, Packed: 511 + lp, Props: api.Props{LC: lc, LP: lp, PB: pb}}
				b, _ := chunk.Put(c)
				wantGet(t, b, c, 6)
			}
		}
	}
}

// P17.3: if Get takes bytes, Put of the chunk is their front.
func TestPutOfGet(t *testing.T) {
	r := rand.New(rand.NewSource(1732))
	taken := 0
	for i := range 300000 {
		b := make([]byte, r.Intn(12))
		r.Read(b)
		if len(b) > 5 && i%2 == 0 {
			b[5] = byte(r.Intn(225))
		}
		c, n, errno := chunk.Get(b)
		if errno != api.OK {
			continue
		}
		taken++
		if front, errno := chunk.Put(c); errno != api.OK || len(front) != n || !bytes.Equal(front, b[:n]) {
			t.Fatalf("Put(%+v): % X, error %d; it came of % X", c, front, errno, b)
		}
	}
	if taken < 50000 {
		t.Errorf("Get took %d only", taken)
	}
}

// P17.3: heads one behind the other are read one behind the other.
func TestHeadsInARow(t *testing.T) {
	row, all := []byte(nil), heads()
	for _, c := range all {
		b, _ := chunk.Put(c)
		row = append(row, b...)
	}
	for _, want := range all {
		c, n, errno := chunk.Get(row)
		if c != want || errno != api.OK {
			t.Fatalf("%+v, error %d; want %+v", c, errno, want)
		}
		row = row[n:]
	}
	if len(row) != 0 {
		t.Errorf("%d bytes are left", len(row))
	}
}
