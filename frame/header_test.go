package frame_test

import (
	"testing"
)

// P24.1: the chapter's examples.
func TestHeaderExamples(t *testing.T) {
	wantHeader(t, 4, 0xFD, 0x37, 0x7A, 0x58, 0x5A, 0x00, 0x00, 0x04, 0xE6, 0xD6, 0xB4, 0x46)
	wantHeader(t, 0, 0xFD, 0x37, 0x7A, 0x58, 0x5A, 0x00, 0x00, 0x00, 0xFF, 0x12, 0xD9, 0x41)
	for _, kind := range []int{2, -1, 260} {
		wantNoHeader(t, kind)
	}
}

// P24.1: the header of every kind.
func TestHeaderOfEveryKind(t *testing.T) {
	for _, kind := range kinds {
		wantHeader(t, kind, headerOf(0, byte(kind))...)
	}
}

// P24.1: all kinds about those that are read, and no other number that ends in a right kind's byte.
func TestHeaderOfOtherKinds(t *testing.T) {
	for _, kind := range wrongKinds {
		wantNoHeader(t, kind)
	}
	for kind := -1000; kind < 70000; kind++ {
		wantLaidByWords(t, kind, 8)
	}
	for high := range 55 {
		for _, kind := range kinds {
			wantNoHeader(t, kind+1<<(8+high))
			wantNoHeader(t, kind-1<<(8+high))
		}
	}
}
