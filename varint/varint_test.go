package varint_test

import (
	"bytes"
	"math/rand"
	"testing"

	"pith/api"
	"pith/varint"
)

// P2.1, P2.2, P2.3: the chapter's examples.
func TestExamples(t *testing.T) {
	wantPut(t, 0, []byte{0x00})
	wantPut(t, 127, []byte{0x7F})
	wantPut(t, 128, []byte{0x80, 0x01})
	wantPut(t, 300, []byte{0xAC, 0x02})
	wantPut(t, 1<<63-1, run(0xFF, 8, 0x7F))

	wantNumber(t, []byte{0xAC, 0x02, 0xFF}, 300, 2)
	wantError(t, []byte{}, api.ErrTruncated)
	wantError(t, []byte{0xAC}, api.ErrTruncated)
	wantError(t, run(0x80, 8), api.ErrTruncated)

	wantError(t, []byte{0x80, 0x00}, api.ErrFormat)
	wantNumber(t, []byte{0x00, 0x00}, 0, 1)

	wantError(t, run(0x80, 9), api.ErrFormat)
	wantError(t, run(0x80, 9, 0x01), api.ErrFormat)
	wantNumber(t, run(0x80, 8, 0x01), 1<<56, 9)
	wantError(t, run(0x80, 8, 0x00), api.ErrFormat)

	if a, b := varint.Size(1<<56-1), varint.Size(1<<56); a != 8 || b != 9 {
		t.Errorf("Size beside 2^56: %d, %d", a, b)
	}
}

// P2.1
func TestSize(t *testing.T) {
	for _, v := range someNumbers() {
		if n := varint.Size(v); n != len(sevens(v)) {
			t.Errorf("Size(%d): %d, want %d", v, n, len(sevens(v)))
		}
	}
}

// P2.1: each power of 128 is the first number of one byte more.
func TestSizeAtTheBounds(t *testing.T) {
	power := uint64(1)
	for n := 1; n <= 8; n++ {
		power *= 128
		a, b, c := varint.Size(power-1), varint.Size(power), varint.Size(power+1)
		if a != n || b != n+1 || c != n+1 {
			t.Errorf("Size beside 128^%d: %d, %d, %d", n, a, b, c)
		}
	}
	if a, b, c := varint.Size(0), varint.Size(1), varint.Size(greatest); a != 1 || b != 1 || c != 9 {
		t.Errorf("Size of 0, 1 and the greatest number: %d, %d, %d", a, b, c)
	}
}

// P2.1, P2.2: what is above the greatest number has no size and no bytes.
func TestTooGreat(t *testing.T) {
	for _, v := range tooGreat {
		if n := varint.Size(v); n != 0 {
			t.Errorf("Size(%d): %d", v, n)
		}
		if b, e := varint.Put(v); len(b) != 0 || e != api.ErrRange {
			t.Errorf("Put(%d): % X, error %d", v, b, e)
		}
	}
}

// P2.2
func TestPut(t *testing.T) {
	for _, v := range someNumbers() {
		wantPut(t, v, sevens(v))
	}
}

// P2.2: what is answered is the caller's own, its spare room too.
func TestPutIsNewMemory(t *testing.T) {
	for _, v := range edges() {
		a, _ := varint.Put(v)
		b, _ := varint.Put(v)
		fill(a, 55)
		if !bytes.Equal(b, sevens(v)) {
			t.Errorf("Put(%d), behind a change of another answer: % X", v, b)
		}
		wantPut(t, v, sevens(v))
		if n := varint.Size(v); n != len(sevens(v)) {
			t.Errorf("Size(%d), behind a change of an answer: %d", v, n)
		}
	}
}

// P2.3: nothing to look at; nil and no bytes are the same.
func TestGetOfNothing(t *testing.T) {
	wantError(t, nil, api.ErrTruncated)
	wantError(t, []byte{}, api.ErrTruncated)
	// What lies in the room behind the bytes is none of them.
	all := []byte{0xAC, 0x02, 0x07}
	wantError(t, all[:0], api.ErrTruncated)
	wantError(t, all[:1], api.ErrTruncated)
	wantNumber(t, all[:2], 300, 2)
}

// P2.3: a first byte alone is a number, or the beginning of one.
func TestGetOfOneByte(t *testing.T) {
	for i := range 128 {
		wantNumber(t, []byte{byte(i)}, uint64(i), 1)
		wantError(t, []byte{byte(i + 128)}, api.ErrTruncated)
	}
}

// P2.3: all of two bytes.
func TestGetOfTwoBytes(t *testing.T) {
	for i := range 256 {
		for j := range 256 {
			b := []byte{byte(i), byte(j)}
			switch {
			case i < 128:
				wantNumber(t, b, uint64(i), 1)
			case j >= 128:
				wantError(t, b, api.ErrTruncated)
			case j == 0:
				wantError(t, b, api.ErrFormat)
			default:
				wantNumber(t, b, uint64(i-128+128*j), 2)
			}
		}
	}
}

// P2.3: a last byte 0 that is not the first, at each place, whatever stands ahead of it and behind.
func TestGetOfALongerForm(t *testing.T) {
	for n := 1; n <= 8; n++ {
		for _, x := range []byte{0x80, 0x81, 0xAC, 0xFF} {
			wantError(t, run(x, n, 0), api.ErrFormat)
			wantError(t, run(x, n, 0, 1), api.ErrFormat)
			wantError(t, run(x, n, 0, 0x80), api.ErrFormat)
			// A zero ahead of the last byte is one of the number's own.
			b := run(x, n-1, 0x80, 1)
			wantNumber(t, b, numberOf(b), n+1)
		}
	}
}

// numberOf: the number of these bytes, the last one its highest.
func numberOf(b []byte) uint64 {
	v := uint64(0)
	for i := len(b) - 1; i >= 0; i-- {
		v = v*128 + uint64(b[i]%128)
	}
	return v
}

// P2.3: the ninth byte is the last one that there can be.
func TestGetAtTheNinthByte(t *testing.T) {
	for _, x := range []byte{0x80, 0x81, 0xFF} {
		wantError(t, run(x, 8), api.ErrTruncated)
		for last := range 256 {
			b := run(x, 8, byte(last))
			for _, tail := range [][]byte{nil, {0}, {1}, {0x7F}, {0x80}, {0xFF, 0xFF}} {
				all := append(bytes.Clone(b), tail...)
				if last == 0 || last >= 128 {
					wantError(t, all, api.ErrFormat)
				} else {
					wantNumber(t, all, numberOf(b), 9)
				}
			}
		}
	}
}

// P2.3: however many bytes follow, the ninth decides.
func TestGetOfManyBytes(t *testing.T) {
	for _, n := range []int{10, 11, 16, 64, 65536} {
		wantError(t, run(0x80, n), api.ErrFormat)
		wantError(t, run(0xFF, n), api.ErrFormat)
		wantError(t, run(0xFF, n, 1), api.ErrFormat)
		wantNumber(t, run(0x00, n), 0, 1)
		wantNumber(t, run(0x7F, n), 127, 1)
	}
}

// P2.4: from a number to its bytes and back, whatever stands behind them.
func TestThereAndBack(t *testing.T) {
	tails := [][]byte{nil, {0}, {1}, {0x7F}, {0x80}, {0xFF}, {0, 0}, {0x80, 0}, run(0xFF, 12)}
	for _, v := range someNumbers() {
		b, e := varint.Put(v)
		if e != api.OK {
			t.Fatalf("Put(%d): error %d", v, e)
		}
		for _, tail := range tails {
			wantNumber(t, append(bytes.Clone(b), tail...), v, varint.Size(v))
		}
	}
}

// P2.4: from bytes to a number and back.
func TestBackAndThere(t *testing.T) {
	chance := rand.New(rand.NewSource(4))
	numbers := 0
	for range 200000 {
		b := chanceBytes(chance)
		v, n, e := varint.Get(b)
		if e != api.OK {
			continue
		}
		numbers++
		if n != varint.Size(v) || n > len(b) {
			t.Fatalf("Get(% X): %d, %d, whose size is %d", b, v, n, varint.Size(v))
		}
		wantPut(t, v, b[:n])
	}
	if numbers < 10000 {
		t.Errorf("only %d were numbers", numbers)
	}
}

// chanceBytes: up to twelve bytes, many of them at the edges.
func chanceBytes(chance *rand.Rand) []byte {
	b := make([]byte, chance.Intn(13))
	for i := range b {
		b[i] = byte(chance.Intn(256))
		switch chance.Intn(8) {
		case 0:
			b[i] = 0
		case 1, 2, 3:
			b[i] |= 128
		}
	}
	return b
}

// P2.3, on all kinds of bytes: the answer is the one of the chapter's words, one byte after the other.
func TestGetByTheWords(t *testing.T) {
	chance := rand.New(rand.NewSource(3))
	for range 200000 {
		b := chanceBytes(chance)
		n, e := byTheWords(b)
		if e != api.OK {
			wantError(t, b, e)
		} else {
			wantNumber(t, b, numberOf(b[:n]), n)
		}
	}
}

func byTheWords(b []byte) (int, api.Errno) {
	for i := 0; ; i++ {
		switch {
		case i == len(b):
			return 0, api.ErrTruncated
		case i == 8 && b[i] >= 128:
			return 0, api.ErrFormat
		case b[i] == 0 && i > 0:
			return 0, api.ErrFormat
		case b[i] < 128:
			return i + 1, api.OK
		}
	}
}

// P2.5: each proper beginning of a number's bytes is ErrTruncated.
func TestBeginnings(t *testing.T) {
	for _, v := range someNumbers() {
		b, _ := varint.Put(v)
		if len(b) != varint.Size(v) {
			t.Fatalf("Put(%d): % X", v, b)
		}
		for n := range b {
			wantError(t, b[:n], api.ErrTruncated)
			wantError(t, bytes.Clone(b[:n]), api.ErrTruncated)
		}
	}
}

// P2.5: no number's bytes are the beginning of another's.
func TestApart(t *testing.T) {
	all := [][]byte{}
	for _, v := range append([]uint64{2, 3, 5, 16000, 40000, 1<<56 + 127}, edges()...) {
		b, _ := varint.Put(v)
		all = append(all, b)
	}
	for _, a := range all {
		for _, b := range all {
			if !bytes.Equal(a, b) && bytes.HasPrefix(b, a) {
				t.Errorf("% X begins with % X", b, a)
			}
		}
	}
}

// P2.5: a row of numbers is read back in just one way.
func TestRow(t *testing.T) {
	numbers := someNumbers()
	row := []byte{}
	for _, v := range numbers {
		b, _ := varint.Put(v)
		row = append(row, b...)
	}
	for i, want := range numbers {
		v, n, e := varint.Get(row)
		if v != want || n != varint.Size(want) || n == 0 || e != api.OK {
			t.Fatalf("number %d of the row: %d, %d, error %d, want %d", i, v, n, e, want)
		}
		row = row[n:]
	}
	wantError(t, row, api.ErrTruncated)
}

// W3: what is handed in stays as it was, the room behind it too.
func TestGetChangesNothing(t *testing.T) {
	for _, b := range [][]byte{{}, {5}, {0x80}, {0x80, 0}, {0xAC, 0x02, 0xFF}, run(0x80, 8, 1), run(0xFF, 9, 1)} {
		all := append(bytes.Clone(b), 0x80, 0x01, 0x00)
		before := bytes.Clone(all)
		varint.Get(all[:len(b)])
		if !bytes.Equal(all, before) {
			t.Errorf("Get(% X) has made it % X", before, all)
		}
	}
}

// W2, W3: nothing is kept; what was answered earlier does not count.
func TestNothingIsKept(t *testing.T) {
	b := []byte{0xAC, 0x02}
	wantNumber(t, b, 300, 2)
	fill(b, 0x05)
	wantNumber(t, b, 5, 1)
	wantError(t, run(0x80, 9), api.ErrFormat)
	wantNumber(t, []byte{0xAC, 0x02}, 300, 2)
	varint.Put(1 << 63)
	wantPut(t, 300, []byte{0xAC, 0x02})
}
