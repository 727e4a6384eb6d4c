package block_test

import (
	"bytes"
	"math/bits"
	"math/rand"
	"testing"

	"pith/api"
)

// burst: b with the bits of mask turned over, from its bit at on; false, if one of them would lie behind the first n bytes.
func burst(b []byte, n, at int, mask uint32) ([]byte, bool) {
	other := bytes.Clone(b)
	for i := range 32 {
		if mask>>i%2 == 0 {
			continue
		}
		if at+i >= 8*n {
			return nil, false
		}
		other[(at+i)/8] ^= 1 << ((at + i) % 8)
	}
	return other, true
}

// masks: a burst of each width, 1 to 32: its ends alone, all of it, and by chance between the ends.
func masks(r *rand.Rand) []uint32 {
	all := []uint32{1}
	for width := 2; width <= 32; width++ {
		ends := uint32(1)<<(width-1) | 1
		full := uint32(1<<width - 1)
		all = append(all, ends, full, r.Uint32()&full|ends)
	}
	return all
}

// P22.5: bursts in the header at every place behind its first byte, whatever stands behind the block, and whatever the limit.
func TestBurstsInTheHeader(t *testing.T) {
	r := rand.New(rand.NewSource(225))
	for _, c := range []api.Config{with(0, 0, 0), with(1, 1, 0), with(4, 2, 1), with(10, 1, 256), {Check: 1, Delta: 77, Dict: 1 << 20, Block: 9999}} {
		b, _ := made(t, text(100), c)
		for at := 8; at < 8*12; at++ {
			for _, mask := range masks(r) {
				other, ok := burst(b, 12, at, mask)
				if !ok {
					continue
				}
				for _, mem := range []int{0, 1 << 32} {
					wantFault(t, other, c.Check, mem, api.ErrCheck, 0)
				}
				wantFault(t, append(other, 0, 1), c.Check, 4096, api.ErrCheck, 0)
			}
		}
	}
}

// P22.5: each byte of the check made each other one; of longer data, each of its bits turned.
func TestEachByteOfTheCheck(t *testing.T) {
	t.Parallel()
	for _, c := range shapes() {
		for _, data := range [][]byte{nil, []byte("abc"), text(300)} {
			b, _ := made(t, data, c)
			first := len(b) - len(checkOf(c.Check, data))
			for at := first; at < len(b); at++ {
				for mask := 1; mask < 256; mask++ {
					if c.Mode == api.ModeGreedy && len(data) < 4 || bits.OnesCount(uint(mask)) == 1 {
						wantFault(t, turned(b, at, byte(mask)), c.Check, 4096, api.ErrCheck, first)
					}
				}
			}
		}
	}
}

// P22.5: whatever the check becomes: none of its bits, all, those of other data, one byte on, its bytes backwards, any.
func TestWhateverTheCheckBecomes(t *testing.T) {
	r := rand.New(rand.NewSource(226))
	for _, kind := range kinds[1:] {
		for _, data := range [][]byte{{5}, []byte("abc"), text(300), slope(300)} {
			b, _ := made(t, data, with(kind, 1, 2))
			right := checkOf(kind, data)
			first := len(b) - len(right)
			back := bytes.Clone(right)
			for i, x := range right {
				back[len(back)-1-i] = x
			}
			all := [][]byte{make([]byte, len(right)), bytes.Repeat([]byte{255}, len(right)), checkOf(kind, append(bytes.Clone(data), 0)), checkOf(kind, nil), checkOf(kind, differences(data, 2)), append(right[1:len(right):len(right)], right[0]), back}
			for range 200 {
				all = append(all, noise(r.Int63(), len(right)))
			}
			for _, sum := range all {
				if !bytes.Equal(sum, right) {
					wantFault(t, join(b[:first], sum), kind, 4096, api.ErrCheck, first)
					wantFault(t, join(b[:first], sum, b), kind, 4096, api.ErrCheck, first)
				}
			}
		}
	}
}
