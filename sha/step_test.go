package sha_test

import (
	"math/rand"
	"testing"

	"pith/sha"
)

func wantStep(t *testing.T, state [8]uint32, block [64]byte) {
	t.Helper()
	if got, want := sha.Step(state, block), stepped(state, block[:]); got != want {
		t.Errorf("Step(%x, %x): %x, want %x", state, block, got, want)
	}
}

// P4.5: the chapter's example.
func TestExampleOfStep(t *testing.T) {
	block := [64]byte(joined([]byte("abc"), sha.Pad(3)))
	first := [8]uint32{0x6A09E667, 0xBB67AE85, 0x3C6EF372, 0xA54FF53A, 0x510E527F, 0x9B05688C, 0x1F83D9AB, 0x5BE0CD19}
	want := asState(written(t, "ba7816bf 8f01cfea 414140de 5dae2223 b00361a3 96177a9c b410ff61 f20015ad"))
	if got := sha.Step(first, block); got != want || first != firstState {
		t.Errorf("the step of abc: %x, want %x", got, want)
	}
}

// P4.5: each bit of the state and of the block alone, none, and all.
func TestStepOfEveryBit(t *testing.T) {
	ones := [8]uint32{}
	full := [64]byte{}
	for i := range ones {
		ones[i] = 1<<32 - 1
	}
	fill(full[:], 255)
	for _, state := range [][8]uint32{{}, ones, firstState} {
		wantStep(t, state, [64]byte{})
		wantStep(t, state, full)
		for i := range 512 {
			block := [64]byte{}
			block[i/8] = 1 << (i % 8)
			wantStep(t, state, block)
		}
	}
	for i := range 256 {
		state := [8]uint32{}
		state[i/32] = 1 << (i % 32)
		wantStep(t, state, [64]byte{})
		wantStep(t, state, full)
	}
}

// P4.5: from any state, over any block.
func TestStepFromAnyState(t *testing.T) {
	r := rand.New(rand.NewSource(451))
	for range 5000 {
		wantStep(t, chanceState(r), [64]byte(chanceBytes(r, 64)))
	}
}

// P4.5: the steps over the padded blocks make the sum.
func TestStepsMakeTheSum(t *testing.T) {
	r := rand.New(rand.NewSource(452))
	for n := range 300 {
		b := chanceBytes(r, n)
		state := firstState
		for all := joined(b, sha.Pad(n)); len(all) > 0; all = all[64:] {
			state = sha.Step(state, [64]byte(all))
		}
		wantSum(t, asBytes(state), b)
	}
}

// P4.5, W2: the step of one block leaves nothing behind for the next.
func TestStepKeepsNothing(t *testing.T) {
	r := rand.New(rand.NewSource(453))
	state, block := chanceState(r), [64]byte(chanceBytes(r, 64))
	sameState, sameBlock := state, block
	first := sha.Step(state, block)
	sha.Step(chanceState(r), [64]byte(chanceBytes(r, 64)))
	if sha.Step(state, block) != first || state != sameState || block != sameBlock {
		t.Error("a step hangs on another one, or changes what it is given")
	}
}
