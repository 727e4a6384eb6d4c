package lzma2_test

import (
	"bytes"
	"slices"
	"strconv"
	"testing"

	"pith/api"
	"pith/lzma2"
)

// byOthers: a row that another packer of the format made of bottles, with the dictionary 4096.
var byOthers = []byte{
	0xE0, 0x02, 0x19, 0x00, 0x40, 0x13, 0x00, 0x19, 0x0C, 0x60, 0x68, 0x4D, 0x05, 0x5D, 0xEF, 0xC7, 0x4A, 0x7E, 0xD4, 0x26, 0x7C, 0x7D, 0xB4, 0x91,
	0xF9, 0x9A, 0x7D, 0xC8, 0xA8, 0xBD, 0xE1, 0xCF, 0x4A, 0x9C, 0x25, 0x12, 0x82, 0x0E, 0x4E, 0x80, 0xDF, 0x00, 0xA3, 0xAE, 0x09, 0xA1, 0x14, 0xFF,
	0xAB, 0x28, 0xF0, 0x11, 0x1B, 0x7C, 0x19, 0x53, 0x10, 0xBA, 0x20, 0x2B, 0xC2, 0x94, 0x7F, 0x75, 0xF4, 0xB1, 0x7C, 0x01, 0xD0, 0x00, 0x00, 0x00,
}

func bottles() []byte {
	var b []byte
	for n := 20; n > 0; n-- {
		b = append(b, strconv.Itoa(n)+" bottles, "...)
	}
	return slices.Concat(b, make([]byte, 300), []byte("bottles"))
}

// P18.2, P18.6: a row that another packer made is read; built of the symbols that it means it is the same row again.
func TestRowByOthers(t *testing.T) {
	p := api.Props{LC: 1, LP: 2}
	wantRead(t, byOthers, 4096, -1, -1, bottles(), 72)
	wantRead(t, byOthers, 4096, 72, 538, bottles(), 72)
	wantChunks(t, byOthers, 72, api.Chunk{Kind: api.ChunkAll, Size: 538, Packed: 65, Props: p})
	l, errno := lzma2.Symbols(byOthers, 4096)
	if errno != api.OK || len(l) != 1 {
		t.Fatalf("%v, error %d", l, errno)
	}
	if b := built(t, 4096, api.Part{Kind: api.ChunkAll, Props: p, Symbols: l[0]}); !bytes.Equal(b, byOthers) {
		t.Errorf("built again it is %s", shown(b))
	}
}
