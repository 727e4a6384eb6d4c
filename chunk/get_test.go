package chunk_test

import (
	"math/rand"
	"testing"

	"pith/api"
	"pith/chunk"
)

// P17.2: the chapter's examples.
func TestGetExamples(t *testing.T) {
	wantNoGet(t, []byte{0x01, 0x00}, api.ErrTruncated)
	wantNoGet(t, []byte{}, api.ErrTruncated)
	wantNoGet(t, []byte{0x03}, api.ErrFormat)
	wantNoGet(t, []byte{0x7F, 0, 0, 0, 0, 0, 0}, api.ErrFormat)
	wantNoGet(t, []byte{0x80, 0, 0, 0}, api.ErrTruncated)
	wantNoGet(t, []byte{0xC0, 0, 0, 0, 0, 0xE1}, api.ErrFormat)
	wantNoGet(t, []byte{0xC0, 0, 0, 0, 0}, api.ErrTruncated)
	wantGet(t, []byte{0x00, 0xFF}, api.Chunk{Kind: api.ChunkEnd}, 1)
}

// P17.2: each kind, of an ordinary size, with bytes behind the head.
func TestGetOfEachKind(t *testing.T) {
	wantGet(t, []byte{0x01, 0x4D, 0x5E, 9}, api.Chunk{Kind: api.ChunkFirst, Size: 0x4D5F, Packed: 0x4D5F}, 3)
	wantGet(t, []byte{0x02, 0x4D, 0x5E}, api.Chunk{Kind: api.ChunkRaw, Size: 0x4D5F, Packed: 0x4D5F}, 3)
	wantGet(t, []byte{0x9A, 0x2B, 0x3C, 0x4D, 0x5E, 9, 9}, api.Chunk{Kind: api.ChunkSame, Size: 0x1A2B3D, Packed: 0x4D5F}, 5)
	wantGet(t, []byte{0xBA, 0x2B, 0x3C, 0x4D, 0x5E}, api.Chunk{Kind: api.ChunkState, Size: 0x1A2B3D, Packed: 0x4D5F}, 5)
	wantGet(t, []byte{0xDA, 0x2B, 0x3C, 0x4D, 0x5E, 0x00, 0xE1}, api.Chunk{Kind: api.ChunkProps, Size: 0x1A2B3D, Packed: 0x4D5F}, 6)
	wantGet(t, []byte{0xFA, 0x2B, 0x3C, 0x4D, 0x5E, 0x5D}, api.Chunk{Kind: api.ChunkAll, Size: 0x1A2B3D, Packed: 0x4D5F, Props: usual}, 6)
	wantGet(t, []byte{0xFF, 0xFF, 0xFF, 0xFF, 0xFF, 0x00}, api.Chunk{Kind: api.ChunkAll, Size: api.MaxChunk, Packed: api.MaxPacked}, 6)
}

// P17.2: no bytes, nil or empty.
func TestGetOfNothing(t *testing.T) {
	wantNoGet(t, nil, api.ErrTruncated)
	wantNoGet(t, make([]byte, 0, 6), api.ErrTruncated)
}

// P17.2, P17.6: of the 256 first bytes just those from 3 to 127 are refused, alone too, ahead of what is missing.
func TestGetOfEachFirstByte(t *testing.T) {
	for first := range 256 {
		for n := 1; n <= 9; n++ {
			b := make([]byte, n)
			b[0] = byte(first)
			c, m, errno := chunk.Get(b)
			want, wantN, wantErr := getByWords(b)
			if c != want || m != wantN || errno != wantErr {
				t.Errorf("Get(% X): %+v, %d, error %d; want %+v, %d, error %d", b, c, m, errno, want, wantN, wantErr)
			}
			if refused := first >= 3 && first <= 127; refused != (errno == api.ErrFormat) {
				t.Errorf("Get(% X): error %d", b, errno)
			}
			if n >= 6 && (errno == api.OK) != (first < 3 || first > 127) {
				t.Errorf("Get(% X): error %d", b, errno)
			}
		}
	}
}

// P17.2: every head that is cut off, at each of its bytes: ErrTruncated; with bytes behind it they are not looked at.
func TestGetOfCutHeads(t *testing.T) {
	for _, c := range heads() {
		b, _ := putByWords(c)
		for n := range b {
			wantNoGet(t, b[:n], api.ErrTruncated)
		}
		for _, behind := range []string{"", "\x00", "\xff", "\x03\x7f", "\xe1\xe1\xe1\xe1\xe1\xe1\xe1"} {
			wantGet(t, []byte(string(b)+behind), c, len(b))
		}
	}
}

// P17.2: each last byte of a head with properties: those of no properties are refused.
func TestGetOfEachLastByte(t *testing.T) {
	taken := 0
	for last := range 256 {
		want := api.Props{LC: last % 9, LP: last / 9 % 5, PB: last / 45}
		for i, first := range []byte{0xC0, 0xE0} {
			b := []byte{first, 0, 1, 0, 2, byte(last), 0}
			if last > 224 || want.LC+want.LP > 4 {
				wantNoGet(t, b, api.ErrFormat)
				wantNoGet(t, b[:5], api.ErrTruncated)
				continue
			}
			wantGet(t, b, api.Chunk{Kind: api.ChunkProps + i, Size: 2, Packed: 3, Props: want}, 6)
			taken++
		}
		// Behind the heads that have none it is not looked at.
		wantGet(t, []byte{0x80, 0, 1, 0, 2, byte(last)}, api.Chunk{Kind: api.ChunkSame, Size: 2, Packed: 3}, 5)
		wantGet(t, []byte{0xA0, 0, 1, 0, 2, byte(last)}, api.Chunk{Kind: api.ChunkState, Size: 2, Packed: 3}, 5)
		wantGet(t, []byte{0x02, 0, 1, byte(last)}, api.Chunk{Kind: api.ChunkRaw, Size: 2, Packed: 2}, 3)
		wantGet(t, []byte{0x00, byte(last)}, api.Chunk{}, 1)
	}
	if taken != 2*75 {
		t.Errorf("%d last bytes are taken", taken)
	}
}

// P17.2: bytes by chance, of each length: what the words say.
func TestGetByTheWords(t *testing.T) {
	r := rand.New(rand.NewSource(1721))
	counts := map[api.Errno]int{}
	for range 300000 {
		b := make([]byte, r.Intn(10))
		r.Read(b)
		c, n, errno := chunk.Get(b)
		want, wantN, wantErr := getByWords(b)
		if c != want || n != wantN || errno != wantErr {
			t.Fatalf("Get(% X): %+v, %d, error %d; want %+v, %d, error %d", b, c, n, errno, want, wantN, wantErr)
		}
		counts[errno]++
	}
	for _, errno := range []api.Errno{api.OK, api.ErrTruncated, api.ErrFormat} {
		if counts[errno] < 10000 {
			t.Errorf("error %d came %d times only", errno, counts[errno])
		}
	}
}
