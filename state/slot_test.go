package state_test

import (
	"math/rand"
	"testing"

	"pith/api"
	"pith/state"
)

// wantSlot: of a distance.
func wantSlot(t *testing.T, dist, want int) {
	t.Helper()
	if slot, errno := state.Slot(dist); slot != want || errno != api.OK {
		t.Errorf("Slot(%d): %d, error %d; want %d", dist, slot, errno, want)
	}
}

// wantRange: of a slot.
func wantRange(t *testing.T, slot, low, bits int) {
	t.Helper()
	if l, b, errno := state.Range(slot); l != low || b != bits || errno != api.OK {
		t.Errorf("Range(%d): %d, %d, error %d; want %d, %d", slot, l, b, errno, low, bits)
	}
}

// P12.4: the chapter's examples.
func TestSlotExamples(t *testing.T) {
	for _, c := range [][2]int{{1, 0}, {2, 1}, {3, 2}, {4, 3}, {5, 4}, {6, 4}, {7, 5}, {8, 5}, {9, 6}, {12, 6}, {13, 7}, {16, 7}, {17, 8}, {4294967295, 63}} {
		wantSlot(t, c[0], c[1])
	}
	for _, c := range [][3]int{{0, 1, 0}, {1, 2, 0}, {2, 3, 0}, {3, 4, 0}, {4, 5, 1}, {5, 7, 1}, {6, 9, 2}, {7, 13, 2}, {62, 2147483649, 30}, {63, 3221225473, 30}} {
		wantRange(t, c[0], c[1], c[2])
	}
}

// P12.4: numbers that are no distance.
func TestSlotOfNoDistance(t *testing.T) {
	for _, d := range noDistances {
		if slot, errno := state.Slot(d); slot != 0 || errno != api.ErrRange {
			t.Errorf("Slot(%d): %d, error %d; want ErrRange", d, slot, errno)
		}
	}
}

// P12.4: numbers that are no slot.
func TestRangeOfNoSlot(t *testing.T) {
	for _, slot := range []int{-1, 64, -2, -63, -64, 65, 127, 128, 1 << 31, 1 << 32, 1<<32 + 4, -1 << 32, least, least + 1, least + 4, greatest - 1, greatest} {
		if l, b, errno := state.Range(slot); l != 0 || b != 0 || errno != api.ErrRange {
			t.Errorf("Range(%d): %d, %d, error %d; want ErrRange", slot, l, b, errno)
		}
	}
}

// P12.4: each slot's least distance, the one ahead of it and its last one; the slots lie one behind the other, without a gap, up to MaxTold and one more.
func TestEverySlot(t *testing.T) {
	for slot, c := range slotRow() {
		last := min(c.least+1<<c.bits-1, api.MaxTold)
		wantRange(t, slot, c.least, c.bits)
		wantSlot(t, c.least, slot)
		wantSlot(t, last, slot)
		wantSlot(t, (c.least+last)/2, slot)
		if slot > 0 {
			wantSlot(t, c.least-1, slot-1)
		}
		if last < api.MaxTold {
			wantSlot(t, last+1, slot+1)
		}
	}
	if low, bits, _ := state.Range(63); low+1<<bits-1 != api.MaxTold+1 {
		t.Errorf("the last slot ends at %d", low+1<<bits-1)
	}
}

// P12.4: by the digits, of each small distance, of those around each power of two, and of any.
func TestSlotsByTheDigits(t *testing.T) {
	for d := 1; d <= 1<<17; d++ {
		wantSlot(t, d, slotTold(d))
	}
	for k := 2; k < 32; k++ {
		for off := -3; off <= 3; off++ {
			for _, d := range []int{1<<k + off, 1<<k + 1<<(k-1) + off} {
				if d >= 1 && d <= api.MaxTold {
					wantSlot(t, d, slotTold(d))
				}
			}
		}
	}
	r := rand.New(rand.NewSource(1241))
	for range 100000 {
		d := 1 + r.Intn(api.MaxTold)>>r.Intn(32)
		wantSlot(t, d, slotTold(d))
	}
}

// P12.6: a distance lies among those of its slot, and slots never fall as distances rise.
func TestSlotsThereAndBack(t *testing.T) {
	before := 0
	for d := 1; d <= api.MaxTold; d += 1 + d/1000 {
		slot, errno := state.Slot(d)
		if errno != api.OK || slot < before {
			t.Fatalf("Slot(%d): %d, error %d, behind %d", d, slot, errno, before)
		}
		low, bits, errno := state.Range(slot)
		if errno != api.OK || low > d || d-low >= 1<<bits {
			t.Fatalf("Range(%d) of the distance %d: %d, %d, error %d", slot, d, low, bits, errno)
		}
		before = slot
	}
	if before != 63 {
		t.Errorf("the last slot met is %d", before)
	}
}
