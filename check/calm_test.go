package check_test

import (
	"bytes"
	"math/rand"
	"slices"
	"sync"
	"testing"

	"pith/api"
	"pith/check"
)

// P5.7, W3: what is handed in stays as it was, the room behind it too.
func TestNothingIsChanged(t *testing.T) {
	all := chanceBytes(rand.New(rand.NewSource(571)), 2200)
	before := bytes.Clone(all)
	for kind := -1; kind <= 16; kind++ {
		for _, n := range lengths {
			check.Sum(kind, all[:n], nil, all[n:n+1])
			check.Same(kind, all[:n], all[n:n+len(checkOf(kind, nil))])
			check.Same(kind, all[:n], all[:n])
			if s, e := check.New(kind); e == api.OK {
				s.Write(all[:n])
				s.Sum()
				s.Write(all[n : 2*n])
				s.Sum()
			}
			if !bytes.Equal(all, before) {
				t.Fatalf("kind %d, %d bytes: they have changed", kind, n)
			}
		}
	}
}

// P5.7, W3: the list of the pieces stays as it was, the room behind it too.
func TestPiecesAreNotChanged(t *testing.T) {
	a, b, room := []byte("a"), []byte("b"), []byte("room")
	same := func(x, y []byte) bool { return string(x) == string(y) && (x == nil) == (y == nil) }
	for kind := -1; kind <= 16; kind++ {
		list := [][]byte{a, nil, b, room}
		check.Sum(kind, list[:3]...)
		if !slices.EqualFunc(list, [][]byte{a, nil, b, room}, same) {
			t.Errorf("kind %d: the list has become %q", kind, list)
		}
		if &list[0][0] != &a[0] || &list[2][0] != &b[0] || &list[3][0] != &room[0] {
			t.Errorf("kind %d: the list has other pieces", kind)
		}
	}
}

// P5.7, W8: bytes that were written and are changed then do not count.
func TestNothingIsKept(t *testing.T) {
	r := rand.New(rand.NewSource(572))
	for _, kind := range readKinds {
		for _, n := range lengths {
			b := chanceBytes(r, n)
			room := append(bytes.Clone(b), chanceBytes(r, 80)...)
			s := begun(t, kind, room[:n])
			fill(room, 99)
			wantState(t, s, checkOf(kind, b))
			s.Write(room[:30])
			fill(room, 77)
			wantState(t, s, checkOf(kind, joined(b, bytes.Repeat([]byte{99}, 30))))
		}
	}
}

// P5.7, W3: what was answered is the caller's own, its spare room too.
func TestSumsAreTheCallersOwn(t *testing.T) {
	for _, kind := range readKinds {
		want := checkOf(kind, []byte("abc"))
		first, _ := check.Sum(kind, []byte("abc"))
		second, _ := check.Sum(kind, []byte("abc"))
		s := begun(t, kind, []byte("abc"))
		third, fourth := s.Sum(), s.Sum()
		for _, sum := range [][]byte{first, third} {
			fill(sum, 55)
			_ = append(sum, 1, 2, 3)
		}
		if !bytes.Equal(second, want) || !bytes.Equal(fourth, want) {
			t.Errorf("kind %d: a change of one answer has changed another", kind)
		}
		wantState(t, s, want)
		wantSum(t, kind, want, []byte("abc"))
		fill(fourth, 66)
		s.Write([]byte("d"))
		wantState(t, s, checkOf(kind, []byte("abcd")))
	}
}

// P5.7, W3: an answer shares no memory with what was handed in.
func TestSumsAreNotTheArguments(t *testing.T) {
	for _, kind := range readKinds {
		for _, n := range []int{4, 8, 32} {
			b := bytes.Repeat([]byte{7}, n)
			sum, _ := check.Sum(kind, b)
			s := begun(t, kind, b)
			asked := s.Sum()
			fill(sum, 1)
			fill(asked, 2)
			if !bytes.Equal(b, bytes.Repeat([]byte{7}, n)) {
				t.Errorf("kind %d: the argument has become % X", kind, b)
			}
		}
	}
}

// W2: how goroutines run is not to be seen.
func TestManyAtOnce(t *testing.T) {
	var group sync.WaitGroup
	for i := range 8 {
		group.Go(func() {
			r := rand.New(rand.NewSource(int64(573 + i)))
			for range 100 {
				kind, pieces := readKinds[r.Intn(4)], chancePieces(r)
				want := checkOf(kind, joined(pieces...))
				s, _ := check.New(kind)
				for _, p := range pieces {
					s.Write(p)
				}
				sum, e := check.Sum(kind, pieces...)
				if !bytes.Equal(s.Sum(), want) || !bytes.Equal(sum, want) || e != api.OK {
					t.Errorf("kind %d: another check", kind)
				}
			}
		})
	}
	group.Wait()
}

// P5.7: every call ends, at all edges at once.
func TestEveryCallEnds(t *testing.T) {
	lists := [][]byte{nil, {}, {0}, make([]byte, 4), make([]byte, 8), make([]byte, 32), make([]byte, 64), make([]byte, 1000)}
	for _, kind := range slices.Concat(readKinds, unreadKinds, noKinds) {
		check.Size(kind)
		for _, b := range lists {
			check.Sum(kind, b, b)
			for _, sum := range lists {
				check.Same(kind, b, sum)
			}
		}
		s, e := check.New(kind)
		if (s == nil) != (e != api.OK) || e != check.Read(kind) {
			t.Errorf("New(%d): %v, error %d", kind, s, e)
		}
		if s == nil {
			continue
		}
		for _, b := range lists {
			s.Write(b)
			s.Sum()
		}
	}
}
