package frame_test

import (
	"math/rand"
	"testing"

	"pith/api"
)

// P24.1: the chapter's examples.
func TestFooterExamples(t *testing.T) {
	wantFooter(t, 4, 8, 0x1F, 0xB6, 0xF3, 0x7D, 0x01, 0x00, 0x00, 0x00, 0x00, 0x04, 0x59, 0x5A)
	for _, index := range []int{7, 0, 17179869188} {
		wantNoFooter(t, 4, index, api.ErrRange)
	}
	wantNoFooter(t, 3, 7, api.ErrConfig)
}

// P24.1: the footer of every kind, and of sizes at the edges and between.
func TestFooterOfEverySize(t *testing.T) {
	for _, kind := range kinds {
		for _, index := range indexes() {
			wantFooter(t, kind, index, footerOf(uint32((index-4)/4), 0, byte(kind))...)
		}
	}
}

// P24.1: the least and the greatest size, byte by byte of what is told.
func TestFooterAtItsEdges(t *testing.T) {
	for _, c := range []struct {
		index int
		told  [4]byte
	}{
		{4, [4]byte{0, 0, 0, 0}}, {8, [4]byte{1, 0, 0, 0}}, {1024, [4]byte{0xFF, 0, 0, 0}}, {1028, [4]byte{0, 1, 0, 0}}, {1 << 18, [4]byte{0xFF, 0xFF, 0, 0}}, {1<<18 + 4, [4]byte{0, 0, 1, 0}},
		{1<<26 + 4, [4]byte{0, 0, 0, 1}}, {4 * 0x04030202, [4]byte{1, 2, 3, 4}}, {17179869180, [4]byte{0xFE, 0xFF, 0xFF, 0xFF}}, {17179869184, [4]byte{0xFF, 0xFF, 0xFF, 0xFF}},
	} {
		guarded := append(c.told[:], 0, 10)
		wantFooter(t, 10, c.index, append(append(sumByWords(guarded), guarded...), 0x59, 0x5A)...)
	}
}

// P24.1: sizes that no index has.
func TestFooterOfWrongSizes(t *testing.T) {
	for _, kind := range kinds {
		for _, index := range wrongIndexes() {
			wantNoFooter(t, kind, index, api.ErrRange)
		}
	}
}

// P24.1: a wrong kind is told, whether the size is right or wrong.
func TestFooterOfWrongKinds(t *testing.T) {
	for _, kind := range wrongKinds {
		for _, index := range indexes() {
			wantNoFooter(t, kind, index, api.ErrConfig)
		}
		for _, index := range wrongIndexes() {
			wantNoFooter(t, kind, index, api.ErrConfig)
		}
	}
}

// P24.1: kinds and sizes by chance, and all small ones.
func TestFooterByWords(t *testing.T) {
	r := rand.New(rand.NewSource(241))
	for range 5000 {
		wantLaidByWords(t, r.Intn(14)-1, r.Intn(mostIndex+1024)-512)
		wantLaidByWords(t, kinds[r.Intn(4)], 4*r.Intn(1<<32))
		wantLaidByWords(t, int(r.Uint64()), int(r.Uint64()))
	}
	for index := -300; index < 3000; index++ {
		wantLaidByWords(t, kinds[(index+300)%4], index)
	}
}
