package check_test

import (
	"bytes"
	"math/rand"
	"testing"

	"pith/api"
	"pith/check"
)

// P5.3: the chapter's examples.
func TestExamplesOfSums(t *testing.T) {
	digits := []byte("123456789")
	wantSum(t, 1, written(t, "26 39 F4 CB"), digits)
	wantSum(t, 1, written(t, "26 39 F4 CB"), digits[:4], digits[4:])
	wantSum(t, 4, written(t, "FA 39 19 DF BB C9 5D 99"), digits)
	wantSum(t, 1, written(t, "00 00 00 00"))
	wantSum(t, 0, nil, []byte("abc"))
	abc := "BA7816BF 8F01CFEA 414140DE 5DAE2223 B00361A3 96177A9C B410FF61 F20015AD"
	wantSum(t, 10, written(t, abc), []byte("abc"))
}

// P5.3: without pieces, with empty ones, with nil: of no bytes.
func TestSumOfNothing(t *testing.T) {
	nothing := map[int]string{
		0:  "",
		1:  "00000000",
		4:  "00000000 00000000",
		10: "E3B0C442 98FC1C14 9AFBF4C8 996FB924 27AE41E4 649B934C A495991B 7852B855",
	}
	for kind, text := range nothing {
		want := written(t, text)
		wantSum(t, kind, want)
		wantSum(t, kind, want, nil)
		wantSum(t, kind, want, []byte{})
		wantSum(t, kind, want, nil, []byte{}, nil)
		wantSum(t, kind, want, [][]byte{}...)
		wantSum(t, kind, want, []byte("room")[:0])
		wantState(t, begun(t, kind), want)
	}
}

// P5.3: every length up to some blocks, and some long ones.
func TestSumOfEveryLength(t *testing.T) {
	r := rand.New(rand.NewSource(531))
	for _, kind := range readKinds {
		for n := range 200 {
			for _, b := range [][]byte{make([]byte, n), bytes.Repeat([]byte{255}, n), chanceBytes(r, n)} {
				wantSum(t, kind, checkOf(kind, b), b)
			}
		}
		for _, n := range []int{4096, 65535, 65536, 65537} {
			b := chanceBytes(r, n)
			wantSum(t, kind, checkOf(kind, b), b)
		}
	}
}

// P5.3: pieces one behind the other, in their order, with empty ones among them.
func TestSumOfPieces(t *testing.T) {
	r := rand.New(rand.NewSource(532))
	for _, kind := range readKinds {
		wantSum(t, kind, checkOf(kind, []byte("abc")), []byte("ab"), nil, []byte("c"))
		wantSum(t, kind, checkOf(kind, []byte("cab")), []byte("c"), []byte{}, []byte("ab"))
		for range 300 {
			pieces := chancePieces(r)
			wantSum(t, kind, checkOf(kind, joined(pieces...)), pieces...)
		}
	}
}

// P5.4: the chapter's examples.
func TestExamplesOfSame(t *testing.T) {
	digits, abc := []byte("123456789"), []byte("abc")
	wantSame(t, api.OK, 1, digits, written(t, "26 39 F4 CB"))
	wantSame(t, api.ErrCheck, 1, digits, written(t, "26 39 F4 CC"))
	wantSame(t, api.ErrFormat, 1, digits, written(t, "26 39 F4"))
	wantSame(t, api.OK, 0, abc, nil)
	wantSame(t, api.ErrFormat, 0, abc, []byte{0})
	wantSame(t, api.ErrUnsupported, 2, abc, nil)
}

// P5.4: the kind 0 takes every b and no sum, be it nil or empty, and refuses every other sum.
func TestSameOfNone(t *testing.T) {
	r := rand.New(rand.NewSource(541))
	for _, n := range lengths {
		b := chanceBytes(r, n)
		wantSame(t, api.OK, 0, b, nil)
		wantSame(t, api.OK, 0, b, []byte{})
		wantSame(t, api.OK, 0, b, b[:0])
		for size := 1; size <= 70; size++ {
			wantSame(t, api.ErrFormat, 0, b, make([]byte, size))
		}
	}
	wantSame(t, api.OK, 0, nil, nil)
}

// P5.4: a sum of any other size is refused ahead of its bytes.
func TestSameOfEverySize(t *testing.T) {
	r := rand.New(rand.NewSource(542))
	for _, kind := range readKinds {
		for _, n := range lengths {
			b := chanceBytes(r, n)
			right := checkOf(kind, b)
			room := joined(right, right, make([]byte, 70))
			for size := range 70 {
				want := api.ErrFormat
				if size == len(right) {
					want = api.OK
				}
				wantSame(t, want, kind, b, room[:size])
			}
			wantSame(t, api.ErrFormat, kind, b, joined(right, []byte{0}))
			wantSame(t, api.ErrFormat, kind, b, joined([]byte{0}, right))
		}
	}
}

// P5.4: every single bit of the sum counts, and every byte of what is summed.
func TestSameTurned(t *testing.T) {
	r := rand.New(rand.NewSource(543))
	for _, kind := range []int{1, 4, 10} {
		for _, n := range lengths[:len(lengths)-1] {
			b := chanceBytes(r, n)
			right := checkOf(kind, b)
			wantSame(t, api.OK, kind, b, right)
			for bit := range 8 * len(right) {
				wantSame(t, api.ErrCheck, kind, b, turned(right, bit))
			}
			for bit := range 8 * len(b) {
				wantSame(t, api.ErrCheck, kind, turned(b, bit), right)
			}
			wantSame(t, api.ErrCheck, kind, joined(b, []byte{0}), right)
		}
	}
}

// P5.4: the sum the other way round, or of another kind, is another one.
func TestSameOfAnotherForm(t *testing.T) {
	b := []byte("123456789")
	wantSame(t, api.ErrCheck, 1, b, written(t, "CB F4 39 26"))
	wantSame(t, api.ErrCheck, 4, b, written(t, "99 5D C9 BB DF 19 39 FA"))
	for _, kind := range readKinds {
		for _, other := range readKinds {
			want := api.ErrFormat
			if kind == other {
				want = api.OK
			}
			wantSame(t, want, kind, b, checkOf(other, b))
		}
	}
}

// P5.4: what Sum answers is the same, by every kind, in any pieces.
func TestSameOfSum(t *testing.T) {
	r := rand.New(rand.NewSource(544))
	for _, kind := range readKinds {
		for range 100 {
			pieces := chancePieces(r)
			sum, _ := check.Sum(kind, pieces...)
			wantSame(t, api.OK, kind, joined(pieces...), sum)
		}
	}
}
