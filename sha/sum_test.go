package sha_test

import (
	"bytes"
	"math/rand"
	"testing"

	"pith/sha"
)

// P4.1: the chapter's examples, by the tests' own reckoning too.
func TestExamplesOfSums(t *testing.T) {
	for _, c := range []struct {
		text []byte
		sum  string
	}{
		{nil, "e3b0c442 98fc1c14 9afbf4c8 996fb924 27ae41e4 649b934c a495991b 7852b855"},
		{[]byte("abc"), "ba7816bf 8f01cfea 414140de 5dae2223 b00361a3 96177a9c b410ff61 f20015ad"},
		{[]byte("abcdbcdecdefdefgefghfghighijhijkijkljklmklmnlmnomnopnopq"), "248d6a61 d20638b8 e5c02693 0c3e6039 a33ce459 64ff2167 f6ecedd4 19db06c1"},
		{bytes.Repeat([]byte("a"), 1000000), "cdc76e5c 9914fb92 81a1c7e2 84d73e67 f1809a48 a497200e 046d39cc c7112cd0"},
	} {
		want := written(t, c.sum)
		wantSum(t, want, c.text)
		wantHash(t, eaten(c.text), len(c.text), want)
		if summed(c.text) != want {
			t.Errorf("by the chapter's words the sum of %.60q is %x", c.text, summed(c.text))
		}
	}
}

// P4.1: no piece, pieces of no byte, nil.
func TestSumOfNothing(t *testing.T) {
	want := summed(nil)
	wantSum(t, want)
	wantSum(t, want, nil)
	wantSum(t, want, []byte{})
	wantSum(t, want, nil, []byte{}, nil)
	wantSum(t, want, [][]byte{}...)
	wantSum(t, want, []byte("room")[:0])
}

// P4.1: every length up to some blocks, and some long ones.
func TestSumOfEveryLength(t *testing.T) {
	r := rand.New(rand.NewSource(411))
	for n := range 400 {
		for _, b := range [][]byte{make([]byte, n), bytes.Repeat([]byte{255}, n), bytes.Repeat([]byte{0x80}, n), chanceBytes(r, n)} {
			wantSum(t, summed(b), b)
		}
	}
	for _, n := range []int{4095, 4096, 4097, 65535, 65536, 65537} {
		b := chanceBytes(r, n)
		wantSum(t, summed(b), b)
	}
}

// P4.1: every byte, and every place in a block, counts.
func TestSumOfEveryByte(t *testing.T) {
	for i := range 256 {
		wantSum(t, summed([]byte{byte(i)}), []byte{byte(i)})
	}
	for n := range 130 {
		b := make([]byte, 130)
		b[n] = 1
		wantSum(t, summed(b), b)
	}
}

// P4.1: pieces one behind the other, in their order, with empty ones among them.
func TestSumOfPieces(t *testing.T) {
	r := rand.New(rand.NewSource(412))
	wantSum(t, summed([]byte("abc")), []byte("ab"), nil, []byte("c"))
	wantSum(t, summed([]byte("cab")), []byte("c"), []byte("ab"))
	for range 500 {
		pieces := [][]byte{}
		for range r.Intn(8) {
			pieces = append(pieces, chanceBytes(r, edges[r.Intn(len(edges))]))
		}
		wantSum(t, summed(joined(pieces...)), pieces...)
	}
}

// P4.2: a new one has eaten nothing, however many there were before it.
func TestNew(t *testing.T) {
	wantHash(t, sha.New(), 0, summed(nil))
	eaten([]byte("abc"))
	wantHash(t, sha.New(), 0, summed(nil))
}

// P4.2: one and the same bytes, cut in two and in three at every place.
func TestCutInTwoAndThree(t *testing.T) {
	r := rand.New(rand.NewSource(421))
	for _, n := range edges {
		b := chanceBytes(r, n)
		want := summed(b)
		for i := range n + 1 {
			wantSum(t, want, b[:i], b[i:])
			for j := i; j <= n; j += 1 + r.Intn(9) {
				wantHash(t, eaten(b[:i], b[i:j], b[j:]), n, want)
			}
		}
	}
}

// P4.2: twelve bytes across the end of a block, cut in every way there is.
func TestCutInEveryWay(t *testing.T) {
	r := rand.New(rand.NewSource(422))
	for _, ahead := range []int{0, 52, 58, 64, 116} {
		b := chanceBytes(r, ahead+12)
		want := summed(b)
		for cuts := range 1 << 11 {
			h, from := eaten(b[:ahead]), ahead
			for i := range 11 {
				if cuts>>i%2 == 1 {
					h.Write(b[from : ahead+i+1])
					from = ahead + i + 1
				}
			}
			h.Write(b[from:])
			wantHash(t, h, len(b), want)
		}
	}
}

// P4.2: byte by byte, with nothing in between, the sum and the length asked at each.
func TestByteByByte(t *testing.T) {
	b := chanceBytes(rand.New(rand.NewSource(423)), 200)
	h := sha.New()
	for n := range b {
		wantHash(t, h, n, summed(b[:n]))
		h.Write(nil)
		h.Write([]byte{})
		h.Write(b[n:n])
		wantHash(t, h, n, summed(b[:n]))
		h.Write(b[n : n+1])
	}
	wantHash(t, h, len(b), summed(b))
}

// P4.2: asked in between or not, one comes to the same.
func TestAskingChangesNothing(t *testing.T) {
	r := rand.New(rand.NewSource(424))
	for _, n := range edges {
		for _, m := range edges {
			x, y := chanceBytes(r, n), chanceBytes(r, m)
			h := eaten(x)
			wantHash(t, h, n, summed(x))
			h.Write(y)
			wantHash(t, h, n+m, summed(joined(x, y)))
			wantHash(t, eaten(x, y), n+m, h.Sum())
		}
	}
}

// P4.2: several in turn, each with bytes of its own.
func TestSeveralInTurn(t *testing.T) {
	r := rand.New(rand.NewSource(425))
	hashes, texts := [5]*sha.Hash{}, [5][]byte{}
	for i := range hashes {
		hashes[i] = sha.New()
	}
	for range 300 {
		i, b := r.Intn(5), chanceBytes(r, r.Intn(40))
		hashes[i].Write(b)
		texts[i] = joined(texts[i], b)
		for k, h := range hashes {
			if h.Len() != len(texts[k]) {
				t.Fatalf("the length is %d, want %d", h.Len(), len(texts[k]))
			}
		}
	}
	for i, h := range hashes {
		wantHash(t, h, len(texts[i]), summed(texts[i]))
	}
}
