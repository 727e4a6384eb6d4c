package stream_test

import (
	"slices"
	"testing"

	"pith/api"
	"pith/stream"
)

// wantPlaces: just these, of a file that Encode makes.
func wantPlaces(t *testing.T, data []byte, c api.Config, want ...api.Place) {
	t.Helper()
	f := made(t, data, c)
	if l, kind, e := stream.Places(f, 4096); !slices.Equal(l, want) || kind != c.Check || e != nil {
		t.Errorf("Places(%s, 4096): %v, %d, %v; want %v, %d", shown(f), l, kind, e, want, c.Check)
	}
}

// place: of a block: where its header begins, its record, how many plain bytes lie ahead.
func place(off, unpadded, size, start int) api.Place {
	return api.Place{Off: off, Record: api.Record{Unpadded: unpadded, Size: size}, Start: start}
}

// placesOf: of blocks one behind the other, from their records' sizes.
func placesOf(off int, sizes ...int) []api.Place {
	var l []api.Place
	start := 0
	for i := 0; i < len(sizes); i += 2 {
		l = append(l, place(off, sizes[i], sizes[i+1], start))
		off += sizes[i] + (4-sizes[i]%4)%4
		start += sizes[i+1]
	}
	return l
}

// P25.3: no block, one, several; each kind of a check. (A raw row has 4 bytes more than its data, a header 12.)
func TestPlaces(t *testing.T) {
	for i, kind := range kinds {
		sum := []int{0, 4, 8, 32}[i]
		wantPlaces(t, nil, with(kind, 0, 0, 5))
		wantPlaces(t, text(1), with(kind, 0, 0, 5), place(12, 17+sum, 1, 0))
		wantPlaces(t, text(5), with(kind, 0, 3, 5), place(12, 21+sum, 5, 0))
		wantPlaces(t, text(6), with(kind, 0, 3, 5), place(12, 21+sum, 5, 0), place(36+sum, 17+sum, 1, 5))
		wantPlaces(t, text(12), with(kind, 0, 0, 5), place(12, 21+sum, 5, 0), place(36+sum, 21+sum, 5, 5), place(60+2*sum, 18+sum, 2, 10))
		wantPlaces(t, text(300), with(kind, 0, 0, 200), place(12, 216+sum, 200, 0), place(228+sum, 116+sum, 100, 200))
	}
}

// P25.3: blocks of others: with told sizes and padding, without data, through a filter, and packed.
func TestPlacesOfOthers(t *testing.T) {
	abc := []byte{1, 0, 2, 'a', 'b', 'c', 0}
	padded := laid(headed(t, 7, 3, 2, lzma(0)), abc, nil, 3)
	none := laid(headed(t, -1, -1, 0, apart(9), lzma(0)), []byte{0}, nil, 0)
	f := fileOf(0, none, padded, none, none, padded)
	l, kind, e := stream.Places(f, 4096)
	want := []api.Place{place(12, 13, 0, 0), place(28, 27, 3, 0), place(56, 13, 0, 3), place(72, 13, 0, 3), place(88, 27, 3, 3)}
	if !slices.Equal(l, want) || kind != 0 || e != nil {
		t.Errorf("Places(%s, 4096): %v, %d, %v; want %v", shown(f), l, kind, e, want)
	}
}

// P25.3: what Places tells is what Encode made: each place has the block of its piece of the data.
func TestPlacesHaveTheBlocks(t *testing.T) {
	for _, c := range shapes(70) {
		data := join(text(70), noise(9, 70), slope(31))
		f := made(t, data, c)
		l, _, e := stream.Places(f, 4096)
		if e != nil || len(l) != 3 {
			t.Fatalf("%+v: %v, %v", c, l, e)
		}
		for i, p := range l {
			want := cut(t, data[70*i:min(70*i+70, len(data))], c)
			if p.Start != 70*i || p.Record != want.r || string(f[p.Off:p.Off+len(want.b)]) != string(want.b) {
				t.Errorf("%+v: the block %d at %+v; want %+v", c, i, p, want.r)
			}
		}
	}
}

// P25.3: a file that Decode refuses has no places, also where all its blocks were read.
func TestPlacesOfSpoiltFiles(t *testing.T) {
	f := severalBlocks(t)
	for _, one := range wrongs(t, f) {
		l, kind, e := stream.Places(turned(f, one.at, one.mask), 4096)
		if len(l) != 0 || kind != 0 || !isFault(e, one.want, one.off) {
			t.Errorf("Places, the byte %d turned: %v, %d, %v", one.at, l, kind, e)
		}
	}
	if l, kind, e := stream.Places(append(f, 0), 4096); len(l) != 0 || kind != 0 || !isFault(e, stream.Format, len(f)) {
		t.Errorf("Places, a byte behind: %v, %d, %v", l, kind, e)
	}
}
