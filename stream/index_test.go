package stream_test

import (
	"bytes"
	"math/rand"
	"slices"
	"testing"

	"pith/api"
	"pith/stream"
)

// rows: blocks and their records: of no block, of one, of several with sizes of one byte and of two.
func rows(t *testing.T, kind int) [][]piece {
	t.Helper()
	c := with(kind, 0, 0, 1000)
	small, great := cut(t, text(3), c), cut(t, text(300), c)
	return [][]piece{nil, {small}, {great}, {small, great, cut(t, text(90), c)}, slices.Repeat([]piece{small}, 127), slices.Repeat([]piece{small}, 128)}
}

// indexed: a file of blocks with another row in its index, with the right sum or with the one that was there, and the right footer.
func indexed(kind int, l []piece, row []byte, isRight bool) ([]byte, int) {
	f := fileOf(kind)[:12]
	var records []api.Record
	for _, p := range l {
		f, records = append(f, p.b...), append(records, p.r)
	}
	index := filled(row...)
	if !isRight {
		copy(index[len(index)-4:], indexOf(records...)[len(indexOf(records...))-4:])
	}
	return ended(kind, f, index), len(f)
}

// records: of blocks.
func records(l []piece) []api.Record {
	var all []api.Record
	for _, p := range l {
		all = append(all, p.r)
	}
	return all
}

// P25.2: the number of records: one less, one more, none, far off; with the sum of what stands there, and as it was.
func TestTheNumberOfRecords(t *testing.T) {
	for i, kind := range kinds {
		for _, l := range rows(t, kind) {
			for _, count := range []int{len(l) - 1, len(l) + 1, 0, 2 * len(l), len(l) + 128, 1 << 31, 1<<63 - 1} {
				if count < 0 || count == len(l) {
					continue
				}
				fitting := slices.Repeat(append(records(l), api.Record{Unpadded: 19, Size: 3}), 2)
				for _, told := range [][]api.Record{records(l), fitting[:min(count, len(fitting))]} {
					f, front := indexed(kind, l, rowOf(count, told...), i%2 == 0)
					wantFault(t, f, 4096, stream.Format, front+1)
				}
			}
		}
	}
}

// P25.2: each size in the index: one less, one more, 0, far off, one that would fit another block; with the right sum and as it was.
func TestEachSizeInTheIndex(t *testing.T) {
	for _, kind := range kinds {
		l := rows(t, kind)[3]
		for i := range l {
			for _, isRight := range []bool{true, false} {
				was := records(l)
				at := len(rowOf(3, was[:i]...))
				u, s := was[i].Unpadded, was[i].Size
				for _, v := range []int{u - 1, u + 1, 0, 4, u + 4, 1 << 40, 1<<63 - 1, s} {
					told := slices.Clone(was)
					told[i].Unpadded = v
					f, front := indexed(kind, l, rowOf(3, told...), isRight)
					wantFault(t, f, 4096, stream.Format, front+at)
				}
				at += len(sevens(u))
				for _, v := range []int{s - 1, s + 1, 0, 2 * s, s + 128, 1 << 40, 1<<63 - 1, u} {
					told := slices.Clone(was)
					told[i].Size = v
					f, front := indexed(kind, l, rowOf(3, told...), isRight)
					wantFault(t, f, 4096, stream.Format, front+at)
				}
			}
		}
	}
}

// P25.2: a number in another form than its shortest, one that does not end with its ninth byte, and one of which a byte is missing.
func TestNumbersInTheIndex(t *testing.T) {
	for _, l := range rows(t, 0)[:4] {
		numbers := []int{len(l)}
		for _, p := range l {
			numbers = append(numbers, p.r.Unpadded, p.r.Size)
		}
		ahead := []byte{0}
		for _, v := range numbers {
			b := sevens(v)
			long := append(bytes.Clone(b), 0)
			long[len(b)-1] |= 128
			endless := bytes.Repeat([]byte{0xFF}, 9)
			for _, other := range [][]byte{long, endless, endless[:8], bytes.Repeat([]byte{0x80}, 9)} {
				f, front := indexed(0, l, join(ahead, other), true)
				// Eight bytes go on with the first byte behind them.
				if a := wantByWords(t, f, 4096); a.err != stream.Format || a.off != front+len(ahead) {
					t.Errorf("%s: %v at %d", shown(f), a.err, a.off)
				}
				// The ninth byte, and the zero, are a fault at once; without them bytes are missing.
				whole := f[:front+len(ahead)+len(other)]
				if len(other) == 8 {
					wantFault(t, whole, 4096, stream.Truncated, front+len(ahead))
				} else {
					wantFault(t, whole, 4096, stream.Format, front+len(ahead))
				}
				wantFault(t, whole[:len(whole)-1], 4096, stream.Truncated, front+len(ahead))
			}
			ahead = append(ahead, b...)
		}
	}
}

// P25.2: each zero of the index made another byte, and more than one; with the right sum and as it was; too few zeros, and too many.
func TestZerosOfTheIndex(t *testing.T) {
	met := map[int]int{}
	// Its record has three bytes.
	block := cut(t, text(120), with(1, 0, 0, 120))
	for n := range 5 {
		l := slices.Repeat([]piece{block}, n)
		row := rowOf(n, records(l)...)
		zeros := (4 - len(row)%4) % 4
		met[zeros]++
		for first := range zeros {
			for _, mask := range masks {
				for _, isRight := range []bool{true, false} {
					filling := make([]byte, zeros)
					filling[first] = mask
					f, front := indexed(1, l, join(row, filling), isRight)
					wantFault(t, f, 4096, stream.Format, front+len(row))
					filling[zeros-1] = 9
					f, front = indexed(1, l, join(row, filling), isRight)
					wantFault(t, f, 4096, stream.Format, front+len(row))
					// Not all there, and wrong: not all there comes first.
					wantFault(t, f[:front+len(row)+zeros-1], 4096, stream.Truncated, front+len(row))
				}
			}
		}
		f, front := indexed(1, l, join(row, make([]byte, zeros+4)), true)
		wantFault(t, f, 4096, stream.Check, front+len(row)+zeros)
		wantByWords(t, ended(1, f[:front], sealed(row...)), 4096)
	}
	for zeros := 1; zeros < 4; zeros++ {
		if met[zeros] == 0 {
			t.Errorf("zeros that were met: %v", met)
		}
	}
}

// P25.2: each byte of the index's sum made each other one; sums of other bytes.
func TestTheSumOfTheIndex(t *testing.T) {
	for _, kind := range kinds {
		for _, l := range rows(t, kind)[:4] {
			f := fileOf(kind, l...)
			at := len(f) - 16
			for i := range 4 {
				for mask := 1; mask < 256; mask++ {
					wantFault(t, turned(f, at+i, byte(mask)), 4096, stream.Check, at)
				}
			}
			front := where(partsOf(t, f), indexMark)[0]
			for _, of := range [][]byte{f[front+1 : at], f[front : at-1], f[:at], nil} {
				wantFault(t, join(f[:at], sealed(of...)[len(of):], f[at+4:]), 4096, stream.Check, at)
			}
		}
	}
}

// P25.2: another first byte than 0 is a block's.
func TestTheIndexBeginsWithAZero(t *testing.T) {
	for _, kind := range kinds {
		for _, l := range rows(t, kind)[:4] {
			f := fileOf(kind, l...)
			front := where(partsOf(t, f), indexMark)[0]
			// Each other byte is the size of a block's header, which is not there whole, or whose sum is not right.
			for first := 1; first < 256; first++ {
				want := stream.Truncated
				if front+4*(first+1) <= len(f) {
					want = stream.Check
				}
				wantFault(t, withByte(f, front, byte(first)), 4096, want, front)
			}
		}
	}
}

// P25.2: no index: the footer follows the blocks, or nothing; the index of another file; two of them.
func TestAnotherIndex(t *testing.T) {
	l := rows(t, 4)
	one, three := fileOf(4, l[1]...), fileOf(4, l[3]...)
	front := where(partsOf(t, one), indexMark)[0]
	index := indexOf(records(l[1])...)
	for _, other := range [][]byte{indexOf(), indexOf(records(l[3])...), indexOf(records(l[5])...)} {
		wantFault(t, ended(4, one[:front], other), 4096, stream.Format, front+1)
	}
	wantFault(t, ended(4, one[:front], indexOf(records(l[2])...)), 4096, stream.Format, front+2)
	wantFault(t, ended(4, join(one[:front], index), index), 4096, stream.Format, front+len(index))
	if a := wantByWords(t, join(one[:front], footerOf(8, 0, 4)), 4096); a.err == nil {
		t.Errorf("a file without an index is read")
	}
	wantFault(t, one[:front], 4096, stream.Truncated, front)
	if a := wantByWords(t, three, 4096); a.err != nil || len(a.places) != 3 {
		t.Errorf("three blocks: %v at %d", a.err, a.off)
	}
}

// P25.2: any rows in the place of the index's.
func TestIndexesByTheWords(t *testing.T) {
	r := rand.New(rand.NewSource(252))
	met := map[error]int{}
	all := rows(t, 0)[:4]
	for range 6000 {
		l := all[r.Intn(len(all))]
		row := rowOf(len(l), records(l)...)
		for range r.Intn(3) {
			row[1+r.Intn(len(row)-1)] ^= 1 << r.Intn(8)
		}
		f, _ := indexed(0, l, row, r.Intn(3) > 0)
		switch r.Intn(5) {
		case 0:
			f = f[:len(f)-r.Intn(30)]
		case 1:
			f = turned(f, len(f)-1-r.Intn(20), 1<<r.Intn(8))
		}
		met[wantByWords(t, f, 4096).err]++
	}
	for _, want := range []error{nil, stream.Truncated, stream.Format, stream.Check} {
		if met[want] < 20 {
			t.Errorf("what was met: %v", met)
		}
	}
}
