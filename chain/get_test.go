package chain_test

import (
	"bytes"
	"math/rand"
	"testing"

	"pith/api"
	"pith/chain"
)

// P20.2: the chapter's examples.
func TestGetOfExamples(t *testing.T) {
	wantGet(t, []byte{0x21, 1, 1, 0xFF}, lzma(1), 3)
	wantNoGet(t, []byte{0x21}, api.ErrTruncated)
	wantNoGet(t, []byte{0x21, 2, 1}, api.ErrTruncated)
	wantNoGet(t, []byte{0x80, 0}, api.ErrFormat)
	wantNoGet(t, []byte{0x80, 0, 1, 1}, api.ErrFormat)
	wantNoGet(t, append([]byte{0x21}, sevens(greatest)...), api.ErrTruncated)
}

// P20.2, P20.8: of what Put lays, whatever stands behind it, also what would go on with it.
func TestGetOfPut(t *testing.T) {
	for i, id := range numbers {
		for k, n := range counts {
			f := filter(id, noise(int64(100*i+k), n)...)
			b, errno := chain.Put(f)
			if errno != api.OK {
				t.Fatalf("Put(%s): error %d", told(f), errno)
			}
			for _, behind := range [][]byte{nil, {0}, {0xFF}, {0x21, 1, 0}, {0x80, 0x80}, noise(int64(i), 40)} {
				wantGet(t, append(bytes.Clone(b), behind...), f, len(b))
			}
		}
	}
}

// P20.2: every beginning of a filter's bytes ends too early, also where the rest lies in the room behind it.
func TestGetOfBeginnings(t *testing.T) {
	for _, id := range numbers {
		for _, n := range []int{0, 1, 2, 127, 128, 300} {
			b := putByWords(filter(id, noise(7, n)...))
			for k := range b {
				wantNoGet(t, b[:k], api.ErrTruncated)
				wantNoGet(t, bytes.Clone(b[:k]), api.ErrTruncated)
			}
		}
	}
	wantNoGet(t, nil, api.ErrTruncated)
	wantNoGet(t, []byte{}, api.ErrTruncated)
}

// tooLong: forms of numbers that are longer than they need be, or longer than any number.
func tooLong() [][]byte {
	all := [][]byte{bytes.Repeat([]byte{0x80}, 9), bytes.Repeat([]byte{0xFF}, 9), bytes.Repeat([]byte{0xFF}, 12)}
	for n := 1; n <= 8; n++ {
		all = append(all, append(bytes.Repeat([]byte{0x80}, n), 0), append(bytes.Repeat([]byte{0xA1}, n), 0))
	}
	return all
}

// P20.2: too long forms of either number, whatever stands behind; the first number's error comes first.
func TestGetOfTooLongForms(t *testing.T) {
	for _, x := range tooLong() {
		for _, behind := range [][]byte{nil, {0}, {1, 1}, {0x80}, {0x80, 0}, noise(3, 30)} {
			wantNoGet(t, append(bytes.Clone(x), behind...), api.ErrFormat)
			for _, id := range numbers {
				wantNoGet(t, append(append(sevens(id), x...), behind...), api.ErrFormat)
			}
		}
	}
	// The second number is wrong at once, the first is not there whole: what comes first in the bytes counts.
	wantNoGet(t, []byte{0x80}, api.ErrTruncated)
	wantNoGet(t, []byte{0x21, 0x80}, api.ErrTruncated)
	wantNoGet(t, append([]byte{0x21}, bytes.Repeat([]byte{0x80}, 8)...), api.ErrTruncated)
}

// P20.2: fewer bytes are left than the number says: by one, and by ever so many.
func TestGetOfTooFew(t *testing.T) {
	for _, count := range []uint64{1, 2, 3, 4, 5, 127, 128, 1<<31 - 1, 1 << 31, 1<<32 - 1, 1 << 32, 1<<32 + 1, 1<<32 + 3, 1 << 62, greatest - 3, greatest - 1, greatest} {
		for left := range 6 {
			b := append(append([]byte{0x21}, sevens(count)...), noise(5, left)...)
			if count <= uint64(left) {
				wantGet(t, b, filter(33, noise(5, left)[:count]...), len(b)-left+int(count))
			} else {
				wantNoGet(t, b, api.ErrTruncated)
			}
		}
	}
}

// P20.2: all of one byte, of two and of three with few in the place of the third; and byte strings by chance.
func TestGetByTheWords(t *testing.T) {
	met := map[api.Errno]int{}
	want := func(b []byte) {
		t.Helper()
		f, n, errno := getByWords(b)
		met[errno]++
		if errno != api.OK {
			wantNoGet(t, b, errno)
		} else {
			wantGet(t, b, f, n)
		}
	}
	for x := range 256 {
		want([]byte{byte(x)})
		for y := range 256 {
			want([]byte{byte(x), byte(y)})
			for _, z := range []byte{0, 1, 127, 128, 255} {
				want([]byte{byte(x), byte(y), z})
			}
		}
	}
	r := rand.New(rand.NewSource(202))
	for range 60000 {
		b := make([]byte, r.Intn(24))
		for i := range b {
			b[i] = []byte{0, 1, 2, 5, 0x21, 0x80, 0x81, 0xFF, byte(r.Intn(256))}[r.Intn(9)]
		}
		want(b)
	}
	if len(met) != 3 || min(met[api.OK], met[api.ErrTruncated], met[api.ErrFormat]) < 1000 {
		t.Errorf("what was met: %v", met)
	}
}

// P20.2: a row of filters is read one behind the other.
func TestGetOfARow(t *testing.T) {
	l := []api.Filter{apart(256), lzma(40), filter(0), filter(greatest, 1, 2, 3), filter(128, make([]byte, 128)...), filter(33)}
	var row []byte
	for _, f := range l {
		row = append(row, putByWords(f)...)
	}
	for i, want := range l {
		f, n, errno := chain.Get(row)
		if !same(f, want) || n != len(putByWords(want)) || errno != api.OK {
			t.Fatalf("the filter %d: %s, %d, error %d", i, told(f), n, errno)
		}
		row = row[n:]
	}
	wantNoGet(t, row, api.ErrTruncated)
}
