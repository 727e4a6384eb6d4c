package check_test

import (
	"math/rand"
	"testing"

	"pith/check"
)

// P5.5: a new one is of no bytes, however many there were before it.
func TestNew(t *testing.T) {
	for _, kind := range readKinds {
		wantState(t, begun(t, kind), checkOf(kind, nil))
		begun(t, kind, []byte("abc"))
		wantState(t, begun(t, kind), checkOf(kind, nil))
	}
}

// P5.5: one and the same bytes, cut in two and in three at every place.
func TestCutInTwoAndThree(t *testing.T) {
	r := rand.New(rand.NewSource(551))
	for _, kind := range readKinds {
		for _, n := range lengths[:len(lengths)-1] {
			b := chanceBytes(r, n)
			want := checkOf(kind, b)
			for i := range n + 1 {
				wantSum(t, kind, want, b[:i], b[i:])
				for j := i; j <= n; j += 1 + r.Intn(9) {
					wantState(t, begun(t, kind, b[:i], b[i:j], b[j:]), want)
				}
			}
		}
	}
}

// P5.5: eleven bytes, across the end of a block too, cut in every way there is.
func TestCutInEveryWay(t *testing.T) {
	r := rand.New(rand.NewSource(552))
	for _, kind := range readKinds {
		for _, ahead := range []int{0, 50, 60} {
			b := chanceBytes(r, ahead+11)
			want := checkOf(kind, b)
			for cuts := range 1 << 10 {
				pieces, from := [][]byte{b[:ahead]}, ahead
				for i := range 10 {
					if cuts>>i%2 == 1 {
						pieces = append(pieces, b[from:ahead+i+1])
						from = ahead + i + 1
					}
				}
				pieces = append(pieces, b[from:])
				wantState(t, begun(t, kind, pieces...), want)
				wantSum(t, kind, want, pieces...)
			}
		}
	}
}

// P5.5: byte by byte, with nothing in between, asked at each.
func TestByteByByte(t *testing.T) {
	b := chanceBytes(rand.New(rand.NewSource(553)), 200)
	for _, kind := range readKinds {
		s := begun(t, kind)
		for n := range b {
			wantState(t, s, checkOf(kind, b[:n]))
			s.Write(nil)
			s.Write([]byte{})
			s.Write(b[n:n])
			wantState(t, s, checkOf(kind, b[:n]))
			s.Write(b[n : n+1])
		}
		wantState(t, s, checkOf(kind, b))
	}
}

// P5.5: asked in between or not, one comes to the same.
func TestAskingChangesNothing(t *testing.T) {
	r := rand.New(rand.NewSource(554))
	for _, kind := range readKinds {
		for _, n := range lengths {
			for _, m := range lengths {
				x, y := chanceBytes(r, n), chanceBytes(r, m)
				s := begun(t, kind, x)
				wantState(t, s, checkOf(kind, x))
				s.Write(y)
				wantState(t, s, checkOf(kind, joined(x, y)))
				wantState(t, begun(t, kind, x, y), s.Sum())
			}
		}
	}
}

// P5.5: Sum of New with Writes is Sum of the pieces.
func TestWritesAreThePieces(t *testing.T) {
	r := rand.New(rand.NewSource(555))
	for _, kind := range readKinds {
		for range 200 {
			pieces := chancePieces(r)
			sum, _ := check.Sum(kind, pieces...)
			wantState(t, begun(t, kind, pieces...), sum)
		}
	}
}

// P5.5: several under way in turns, two of each kind, each with bytes of its own.
func TestSeveralInTurn(t *testing.T) {
	r := rand.New(rand.NewSource(556))
	kinds := append(append([]int{}, readKinds...), readKinds...)
	for range 20 {
		states, texts := make([]*check.State, len(kinds)), make([][]byte, len(kinds))
		for i, kind := range kinds {
			states[i] = begun(t, kind)
		}
		for range 100 {
			i, b := r.Intn(len(kinds)), chanceBytes(r, r.Intn(40))
			states[i].Write(b)
			texts[i] = joined(texts[i], b)
			k := r.Intn(len(kinds))
			wantState(t, states[k], checkOf(kinds[k], texts[k]))
		}
		for i, s := range states {
			wantState(t, s, checkOf(kinds[i], texts[i]))
		}
	}
}

// P5.5: Sum and Same in between know nothing of one under way, nor it of them.
func TestOthersInBetween(t *testing.T) {
	for _, kind := range readKinds {
		s := begun(t, kind, []byte("ab"))
		for _, other := range readKinds {
			wantSum(t, other, checkOf(other, []byte("xyz")), []byte("xyz"))
			check.Same(other, []byte("xyz"), nil)
			check.New(other + 1)
		}
		s.Write([]byte("c"))
		wantState(t, s, checkOf(kind, []byte("abc")))
	}
}
