package lzdec_test

import (
	"encoding/binary"
	"math/rand"
	"testing"

	"pith/api"
)

// The dictionary of these tests: some bytes ahead, so that distances with direct bits are in it.
const directDict = 1 << 17

var directProps = api.Props{}

func directRaw() []byte { return count(1100) }

// upToOdd: a scribe ahead of a direct bit of a match at which the range is odd, behind some symbols; nil, if the range is even there.
func upToOdd(t *testing.T, r *rand.Rand) *scribe {
	t.Helper()
	w := newScribe(directProps, directDict)
	w.came = directRaw()
	w.put(t, w.chance(r, r.Intn(4))...)
	n, slot := w.s.Num, 14+r.Intn(6)
	w.bit(1, "IsMatch", n, w.place())
	w.bit(0, "IsRep", n, 0)
	long := lengths[r.Intn(len(lengths))]
	w.length("Match", w.place(), long)
	w.tree("Slot", min(3, long-2), 6, slot)
	for ahead := r.Intn(slot/2 - 5); ahead > 0; ahead-- {
		w.direct(r.Intn(2), 1)
	}
	if w.span%2 == 0 {
		return nil
	}
	return w
}

// loosely: goes on reading behind these bytes, with more that chance gives, by a reader that does not look at such bits, till it is in its range again and some symbols further; then the bytes are made such that its code is 0 there.
// They are answered with the number of bytes that its symbols make; none, if it fails.
func loosely(r *rand.Rand, b []byte) ([]byte, int) {
	m := &meter{b: b, loose: true, more: func() byte { return byte(r.Intn(256)) }}
	m.begin()
	back := newReader(directProps, directDict)
	back.came, back.in = directRaw(), m
	first := len(back.came)
	within := 0 // how many bytes were read till the code was within the range again
	for range 60 {
		if _, ok := back.one(api.MaxChunk); !ok {
			return nil, 0
		}
		if within == 0 && m.used > len(b) && m.code < m.span {
			within = m.used
		}
		if within > 0 && m.used > within+6 {
			break
		}
	}
	last := m.b[m.used-4:]
	v := binary.BigEndian.Uint32(last)
	if within == 0 || m.used <= within+6 || v < m.code {
		return nil, 0
	}
	binary.BigEndian.PutUint32(last, v-m.code)
	return m.b, len(back.came) - first
}

// takenLoosely: would one who does not look take these bytes? And is there a bit in them at which he had to look?
func takenLoosely(b []byte, n int) (taken, odd bool) {
	m := &meter{b: b, loose: true}
	m.begin()
	back := newReader(directProps, directDict)
	back.came, back.in = directRaw(), m
	_, _, ok := back.row(n)
	return ok, m.odd
}

// P15.2: direct bits that no encoder makes: the code is the last number of an odd range. The bytes are such that one who does not look at that would take them: all symbols are right, all bytes read, and the code is 0 at the end.
// With the number ahead of it, made likewise, they are taken.
func TestDirectBitsOfNoEncoder(t *testing.T) {
	r := rand.New(rand.NewSource(1541))
	refused, taken := 0, 0
	for try := 0; refused < 12 || taken < 12; try++ {
		if try == 1000000 {
			t.Fatalf("%d and %d such bytes found", refused, taken)
		}
		w := upToOdd(t, r)
		if w == nil {
			continue
		}
		code := w.span - 1
		if refused >= 12 {
			code--
		}
		b, n := loosely(r, plus(w.cut(), code))
		if b == nil {
			continue
		}
		ok, odd := takenLoosely(b, n)
		if !ok || odd != (refused < 12) {
			continue
		}
		a := newPair(t, directProps, directDict)
		a.raw(directRaw()...)
		if odd {
			refused++
			wantRefused(t, a.d, b, n, api.ErrFormat)
			wantSpent(t, a)
			continue
		}
		taken++
		if _, _, errno := a.d.Take(b, n); errno != api.OK {
			t.Fatalf("Take(% X, %d): error %d", b, n, errno)
		}
	}
}
