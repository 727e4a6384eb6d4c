package stream_test

import (
	"io"
	"testing"

	"pith/api"
	"pith/stream"
)

// emptyFile: the document's example 1, told byte by byte.
func emptyFile() []byte {
	return []byte{0xFD, 0x37, 0x7A, 0x58, 0x5A, 0, 0, 4, 0xE6, 0xD6, 0xB4, 0x46, 0, 0, 0, 0, 0x1C, 0xDF, 0x44, 0x21, 0x1F, 0xB6, 0xF3, 0x7D, 1, 0, 0, 0, 0, 4, 0x59, 0x5A}
}

// abcFile: its example 2, told byte by byte, but for three of its sums.
func abcFile() []byte {
	return join(
		[]byte{0xFD, 0x37, 0x7A, 0x58, 0x5A, 0, 0, 0, 0xFF, 0x12, 0xD9, 0x41},
		sealed(2, 0, 0x21, 1, 0, 0, 0, 0),
		[]byte{1, 0, 2, 0x61, 0x62, 0x63, 0, 0},
		sealed(0, 1, 0x13, 3),
		low(0x7A9E7206, 4), []byte{1, 0, 0, 0, 0, 0, 0x59, 0x5A},
	)
}

// P25.1: the document's examples 1 to 3.
func TestExamplesOfEncode(t *testing.T) {
	c := bare
	c.Check = 4
	wantEncoded(t, nil, c, emptyFile())
	wantEncoded(t, []byte{}, bare, join([]byte{0xFD, 0x37, 0x7A, 0x58, 0x5A, 0, 0, 0, 0xFF, 0x12, 0xD9, 0x41, 0, 0, 0, 0, 0x1C, 0xDF, 0x44, 0x21}, footerOf(8, 0, 0)))
	wantEncoded(t, []byte("abc"), bare, abcFile())
	if n := len(abcFile()); n != 52 {
		t.Errorf("%d bytes; want 52", n)
	}

	f := made(t, []byte("aaaaaaaaaaaaaaaaaaaa"), with(0, api.ModeGreedy, 0, 65536))
	if row := f[24:]; row[0] != 0xE0 || row[1] != 0 || row[2] != 0x13 || row[5] != 0x5D {
		t.Errorf("20 times a: %s", shown(f))
	}
	wantData(t, f, 4096, []byte("aaaaaaaaaaaaaaaaaaaa"))
}

// P25.2: its examples 4 and 5.
func TestExamplesOfDecode(t *testing.T) {
	f := emptyFile()
	wantRead(t, f, 0, answer{kind: 4})
	wantFault(t, nil, 0, stream.Truncated, 0)
	wantFault(t, []byte{0xFE, 0x37, 0x7A, 0x58, 0x5A, 0, 0, 4, 0xE6, 0xD6, 0xB4, 0x46}, 0, stream.Format, 0)
	wantFault(t, turned(f, 8, 1), 0, stream.Check, 0)
	wantFault(t, f[:12], 0, stream.Truncated, 12)
	wantFault(t, f[:20], 0, stream.Truncated, 20)
	wantFault(t, append(f, 0), 0, stream.Format, 32)
	wantFault(t, withByte(f, 12, 1), 0, stream.Check, 12)
	wantFault(t, withByte(f, 13, 1), 0, stream.Format, 13)
}

// P25.3: its example 6: three blocks.
func TestExampleOfBlocks(t *testing.T) {
	f := made(t, []byte("abcabcabc"), with(0, api.ModeRaw, 0, 4))
	wantRead(t, f, 4096, answer{data: []byte("abcabcabc"), places: []api.Place{
		{Off: 12, Record: api.Record{Unpadded: 20, Size: 4}},
		{Off: 32, Record: api.Record{Unpadded: 20, Size: 4}, Start: 4},
		{Off: 52, Record: api.Record{Unpadded: 17, Size: 1}, Start: 8},
	}})
}

// P25.2: its examples 7 and 8.
func TestExamplesOfTheLimitAndTheCheck(t *testing.T) {
	f := abcFile()
	place := []api.Place{{Off: 12, Record: api.Record{Unpadded: 19, Size: 3}}}
	wantRead(t, f, 4096, answer{data: []byte("abc"), places: place})
	wantFault(t, f, 4095, stream.MemLimit, 12)
	wantRead(t, withByte(f, 27, 0x62), 4096, answer{data: []byte("bbc"), places: place})

	summed := made(t, []byte("abc"), with(1, api.ModeRaw, 0, 65536))
	if len(summed) != 56 {
		t.Errorf("with a CRC-32: %s", shown(summed))
	}
	wantFault(t, withByte(summed, 27, 0x62), 4096, stream.Check, 32)
}

// P25.1 to P25.3, P25.7: the chapter's examples.
func TestExamplesOfTheChapter(t *testing.T) {
	f := abcFile()
	wantRead(t, f, 4096, answer{data: []byte("abc"), places: []api.Place{{Off: 12, Record: api.Record{Unpadded: 19, Size: 3}}}})
	wantRead(t, emptyFile(), 0, answer{kind: 4})
	wantFault(t, f, 4095, stream.MemLimit, 12)
	for n, off := range map[int]int{11: 0, 12: 12, 23: 12, 24: 24, 25: 24, 27: 27, 30: 30, 31: 31, 32: 32, 33: 33, 36: 36, 40: 40, 51: 40} {
		wantFault(t, f[:n], 4096, stream.Truncated, off)
	}
	wantFault(t, withByte(f, 35, 4), 4096, stream.Format, 35)
	wantFault(t, withByte(f, 6, 1), 4096, stream.Check, 0)
	c := bare
	c.Props.PB = 5
	wantNotEncoded(t, []byte("abc"), c)
	for _, x := range []struct {
		e    error
		want api.Errno
	}{{nil, api.OK}, {io.EOF, api.ErrFormat}, {&stream.Fault{Off: 3, Err: stream.Range}, api.ErrRange}, {&stream.Fault{}, api.ErrFormat}} {
		if errno := stream.Code(x.e); errno != x.want {
			t.Errorf("Code(%v): %d; want %d", x.e, errno, x.want)
		}
	}
}
