package chain_test

import "testing"

// byOthers: a row that another packer of the format made of 307 bytes, through the Delta filter with the distance 2, with the dictionary 4096.
var byOthers = []byte{
	0xE0, 0x01, 0x32, 0x00, 0x14, 0x5D, 0x00, 0x00, 0x32, 0x6F, 0xA0, 0x6A, 0xFE, 0x1E,
	0x7B, 0x2C, 0x65, 0xE2, 0x0F, 0xE7, 0xA5, 0x8C, 0x66, 0x2F, 0xAA, 0x80, 0x00, 0x00,
}

// samples: 150 pairs that go up by 3 and down by 2, and a text behind them.
func samples() []byte {
	var b []byte
	for i := range 150 {
		b = append(b, byte(3*i), byte(200-2*i))
	}
	return append(b, "the end"...)
}

// P20.7: it is read, also with its sizes told.
func TestRowByOthers(t *testing.T) {
	wantData(t, byOthers, 4096, untold, samples(), 28, apart(2), lzma(0))
	wantData(t, append(byOthers[:28:28], 1, 2), 4096, sizes{28, 307}, samples(), 28, apart(2), lzma(0))
	wantData(t, byOthers, 1<<32, untold, samples(), 28, apart(2), lzma(40))
	wantData(t, byOthers, 4096, untold, differences(samples(), 2), 28, lzma(0))
}
