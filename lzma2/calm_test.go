package lzma2_test

import (
	"bytes"
	"math/rand"
	"reflect"
	"runtime"
	"slices"
	"sync"
	"testing"

	"pith/api"
	"pith/lzma2"
)

// wantAsByWords: Decode, Chunks and Symbols answer what the words say of these bytes.
func wantAsByWords(t *testing.T, b []byte, dict, packed, size int) api.Errno {
	t.Helper()
	want := readByWords(b, dict, packed, size, false)
	if want.errno != api.OK {
		wantFault(t, b, dict, packed, size, want.errno, want.n)
	} else {
		wantRead(t, b, dict, packed, size, want.data, want.n)
	}
	untold := readByWords(b, dict, -1, -1, false)
	if l, errno := lzma2.Symbols(b, dict); errno != untold.errno || !sameLists(l, untold.all) {
		t.Errorf("Symbols(%s, %d): %v, error %d; want %v, error %d", shown(b), dict, l, errno, untold.all, untold.errno)
	}
	blind := readByWords(b, dict, -1, -1, true)
	if blind.errno != api.OK {
		wantNoChunks(t, b, blind.errno)
	} else {
		wantChunks(t, b, blind.n, blind.heads[:len(blind.heads)-1]...)
	}
	return want.errno
}

// P18.2, P18.10: at all bytes every call ends, and answers what the words say: rows that were spoilt in a place or several, with sizes told by chance.
func TestSpoiltRows(t *testing.T) {
	t.Parallel()
	r := rand.New(rand.NewSource(18))
	met := map[api.Errno]int{}
	for _, x := range shortRows(t) {
		for range 150 {
			b := spoil(r, slices.Clone(x.row))
			packed, size := -1, -1
			if r.Intn(3) == 0 {
				packed = r.Intn(len(b) + 3)
			}
			if r.Intn(3) == 0 {
				size = r.Intn(3*len(b) + 1)
			}
			met[wantAsByWords(t, b, x.dict, packed, size)]++
		}
	}
	if met[api.OK] == 0 || met[api.ErrFormat] == 0 || met[api.ErrTruncated] == 0 || len(met) != 3 {
		t.Errorf("errors that were met: %v", met)
	}
}

// spoil: a byte or several are others, gone, or new; or the end is gone.
func spoil(r *rand.Rand, b []byte) []byte {
	for range 1 + r.Intn(3) {
		at := r.Intn(len(b) + 1)
		switch r.Intn(5) {
		case 0:
			b = b[:at]
		case 1:
			b = slices.Insert(b, at, byte(r.Intn(256)))
		case 2:
			if at < len(b) {
				b = slices.Delete(b, at, at+1)
			}
		case 3:
			if at < len(b) {
				b[at] = []byte{0, 1, 2, 3, 0x7F, 0x80, 0xA0, 0xC0, 0xE0, 0xFF}[r.Intn(10)]
			}
		default:
			if at < len(b) {
				b[at] ^= 1 << r.Intn(8)
			}
		}
	}
	return b
}

// P18.10: byte strings by chance, with much that looks like heads.
func TestAnyBytes(t *testing.T) {
	t.Parallel()
	r := rand.New(rand.NewSource(1818))
	for range 3000 {
		var b []byte
		for range r.Intn(6) {
			switch r.Intn(4) {
			case 0:
				n := 1 + r.Intn(4)
				b = join(b, []byte{byte(1 + r.Intn(2)), 0, byte(n - 1)}, noise(r.Int63(), n))
			case 1:
				b = join(b, headByWords(3+r.Intn(4), 1+r.Intn(3), 6, usual), make([]byte, 6))
			case 2:
				b = append(b, noise(r.Int63(), r.Intn(8))...)
			default:
				b = append(b, 0)
			}
		}
		wantAsByWords(t, b, 1+r.Intn(100), r.Intn(40)-1, r.Intn(20)-1)
	}
	for a := range 256 {
		wantAsByWords(t, []byte{byte(a)}, 4096, -1, -1)
		for c := range 256 {
			wantAsByWords(t, []byte{byte(a), byte(c)}, 4096, -1, -1)
		}
	}
}

// P18.10: what is handed in is as it was, with the room behind it, and the room does not count.
func TestNothingIsChanged(t *testing.T) {
	for _, b := range [][]byte{nil, {0}, abc, abc[:5], zero, zero[:12], {3}} {
		room := withRoom(b)
		was := slices.Clone(room[:cap(room)])
		wantAsByWords(t, room, 4096, -1, -1)
		wantAsByWords(t, room, 4096, len(b), 3)
		if !bytes.Equal(room[:cap(room)], was) {
			t.Errorf("% X became % X", was, room[:cap(room)])
		}
	}
	for _, data := range [][]byte{nil, {1}, text(1, 500), noise(1, 500)} {
		for _, mode := range modes {
			room := withRoom(data)
			was := slices.Clone(room[:cap(room)])
			if b := encoded(t, room, config(mode)); !bytes.Equal(b, encodeByWords(data, config(mode))) {
				t.Errorf("mode %d: it hangs on what stands behind the data", mode)
			}
			lzma2.Encode(room, config(3))
			if !bytes.Equal(room[:cap(room)], was) {
				t.Errorf("mode %d: the data became others", mode)
			}
		}
	}
	for seed := range int64(20) {
		a := newAuthor(seed, 300)
		a.more(6)
		wantPartsUnchanged(t, a.parts)
		wantPartsUnchanged(t, append(a.parts, api.Part{Kind: 7, Raw: []byte("x"), Symbols: []api.Symbol{lit(1)}}))
	}
}

// wantPartsUnchanged: by Build; neither the parts, nor the lists in them, nor the room behind each of these.
func wantPartsUnchanged(t *testing.T, parts []api.Part) {
	t.Helper()
	list := make([]api.Part, 0, len(parts)+2)
	var was []api.Part
	for _, p := range parts {
		symbols := append(slices.Clone(p.Symbols), lit('#'), match(9, 9))
		raw := append(slices.Clone(p.Raw), "room"...)
		list = append(list, api.Part{Kind: p.Kind, Props: p.Props, Symbols: symbols[:len(p.Symbols)], Raw: raw[:len(p.Raw)]})
		was = append(was, api.Part{Kind: p.Kind, Props: p.Props, Symbols: slices.Clone(symbols), Raw: slices.Clone(raw)})
	}
	behind := append(list, rawPart(2, "behind"), packedPart(6, lit('z')))[len(list):]
	lzma2.Build(300, list...)
	for i, p := range list {
		p.Symbols, p.Raw = p.Symbols[:len(p.Symbols)+2], p.Raw[:len(p.Raw)+4]
		if !reflect.DeepEqual(p, was[i]) {
			t.Errorf("the part %d became %+v; it was %+v", i, p, was[i])
		}
	}
	if !reflect.DeepEqual(behind, []api.Part{rawPart(2, "behind"), packedPart(6, lit('z'))}) {
		t.Errorf("the room behind the parts became %+v", behind)
	}
}

// overwrite: all bytes, those of the spare room too; and then it is lengthened.
func overwrite(b []byte) {
	for i := range b[:cap(b)] {
		b[:cap(b)][i] ^= 0xFF
	}
	_ = append(b, 1, 2, 3, 4, 5)
}

// P18.10: answers that are written over and lengthened show in nothing: neither in what was handed in, nor in another answer, nor in a later one.
func TestAnswersAreNewMemory(t *testing.T) {
	parts := []api.Part{rawPart(1, "abc"), packedPart(5, lit('x'), match(5, 2)), rawPart(2, "de"), packedPart(3, short())}
	for _, mode := range modes {
		data := text(1, 300)
		want := encodeByWords(data, config(mode))
		b, other := encoded(t, data, config(mode)), encoded(t, data, config(mode))
		overwrite(b)
		if !bytes.Equal(other, want) || !bytes.Equal(data, text(1, 300)) || !bytes.Equal(encoded(t, data, config(mode)), want) {
			t.Errorf("Encode, mode %d", mode)
		}
		copied := encoded(t, data, config(mode))
		overwrite(data)
		if !bytes.Equal(copied, want) {
			t.Errorf("Encode, mode %d: it hangs on the data later", mode)
		}
	}
	row := built(t, 4096, parts...)
	want := slices.Clone(row)
	b := built(t, 4096, parts...)
	overwrite(b)
	if !bytes.Equal(row, want) || !bytes.Equal(built(t, 4096, parts...), want) || string(parts[0].Raw) != "abc" {
		t.Errorf("Build")
	}
	read := readByWords(want, 4096, -1, -1, false)
	d, _, _ := lzma2.Decode(row, 4096, -1, -1)
	overwrite(d)
	if !bytes.Equal(row, want) {
		t.Errorf("Decode")
	}
	wantRead(t, row, 4096, -1, -1, read.data, len(row))
	heads, _, _ := lzma2.Chunks(row)
	heads = heads[:cap(heads)]
	for i := range heads {
		heads[i] = api.Chunk{Kind: 9, Size: 9}
	}
	wantChunks(t, row, len(row), read.heads[:len(read.heads)-1]...)
	d, _, _ = lzma2.Decode(row, 4096, -1, -1)
	l, _ := lzma2.Symbols(row, 4096)
	overwrite(row)
	if !bytes.Equal(d, read.data) || !sameLists(l, read.all) {
		t.Errorf("what was read hangs on the bytes later")
	}
}

// P18.10: of an answer of Symbols no two lists share memory, spare room too.
func TestListsShareNothing(t *testing.T) {
	b := built(t, 4096, packedPart(6, lit('x'), match(5, 1), lit('y')), packedPart(3, short(), lit('z'), lit('0')), rawPart(2, "de"), packedPart(3, short()))
	want := readByWords(b, 4096, -1, -1, false).all
	for i := range want {
		l, _ := lzma2.Symbols(b, 4096)
		all := l[i][:cap(l[i])]
		for k := range all {
			all[k] = match(7, 7)
		}
		_ = append(l[i], lit(1), lit(2), lit(3))
		for k := range l {
			if k != i && !slices.Equal(l[k], want[k]) {
				t.Errorf("the list %d shows in the list %d: %v", i, k, l[k])
			}
		}
		if again, _ := lzma2.Symbols(b, 4096); !sameLists(again, want) {
			t.Errorf("the list %d shows in a later answer: %v", i, again)
		}
	}
}

// P18.10, W7: memory is taken for bytes that are there, not for those that heads and arguments tell.
func TestMemoryIsTakenAsBytesAreThere(t *testing.T) {
	for name, b := range map[string][]byte{
		"a head alone":            {0xFF, 0xFF, 0xFF, 0xFF, 0xFF, 0x5D, 0, 1, 2},
		"few bytes, many told":    join([]byte{0xFF, 0xFF, 0xFF, 0, 9, 0x5D}, make([]byte, 10), []byte{0}),
		"a raw head alone":        {1, 0xFF, 0xFF, 1},
		"a long string behind it": append([]byte{1, 0, 0, 'a', 0}, make([]byte, 8<<20)...),
	} {
		if taken := takenBy(func() {
			for range 10 {
				lzma2.Decode(b, api.MaxTold, -1, -1)
				lzma2.Symbols(b, api.MaxTold)
				lzma2.Chunks(b)
			}
		}); taken > 10<<20 {
			t.Errorf("%s: %d bytes are taken", name, taken)
		}
	}
	if taken := takenBy(func() {
		lzma2.Encode([]byte("abc"), api.Config{Props: usual, Dict: api.MaxDict, Mode: 2})
		lzma2.Build(api.MaxTold, rawPart(1, "abc"), packedPart(5, match(2, 3)))
	}); taken > 4<<20 {
		t.Errorf("writing a few bytes takes %d", taken)
	}
}

// takenBy: how much memory a function takes in all.
func takenBy(f func()) uint64 {
	var before, behind runtime.MemStats
	runtime.ReadMemStats(&before)
	f()
	runtime.ReadMemStats(&behind)
	return behind.TotalAlloc - before.TotalAlloc
}

// W2: many at once, each answers what it answers alone.
func TestManyAtOnce(t *testing.T) {
	a := newAuthor(5, 300)
	a.more(9)
	row := built(t, 300, a.parts...)
	data := append(text(9, 3000), noise(9, 3000)...)
	var group sync.WaitGroup
	for range 8 {
		group.Go(func() {
			for range 5 {
				if b, errno := lzma2.Build(300, a.parts...); !bytes.Equal(b, row) || errno != api.OK {
					t.Errorf("Build: %s, error %d", shown(b), errno)
				}
				wantRead(t, row, 300, -1, -1, a.data, len(row))
				for _, mode := range modes {
					if b, errno := lzma2.Encode(data, config(mode)); !bytes.Equal(b, encodeByWords(data, config(mode))) || errno != api.OK {
						t.Errorf("Encode, mode %d: %s, error %d", mode, shown(b), errno)
					}
				}
			}
		})
	}
	group.Wait()
}
