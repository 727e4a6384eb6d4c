package chain_test

import (
	"bytes"
	"math"
	"testing"

	"pith/api"
	"pith/chain"
)

// wantBack: P20.8, of a configuration that is legal: its chain tells its distance and at least its dictionary, and what is encoded is decoded by it, with the limit d or more, whatever stands behind, and with the row's sizes told.
func wantBack(t *testing.T, data []byte, c api.Config) {
	t.Helper()
	l := chainOf(t, c)
	dist, dict, errno := chain.Read(l...)
	if dist != c.Delta || dict < c.Dict || errno != api.OK {
		t.Errorf("%+v: its chain tells %d, %d, error %d", c, dist, dict, errno)
	}
	b := encoded(t, data, c)
	for i, mem := range []int{dict, dict + 1, math.MaxInt} {
		behind := [][]byte{nil, {0}, noise(int64(len(data)), 11)}[i]
		row := append(bytes.Clone(b), behind...)
		wantData(t, row, mem, untold, data, len(b), l...)
	}
	wantData(t, b, dict, sizes{len(b), len(data)}, data, len(b), l...)
	wantFault(t, b, dict-1, untold, api.ErrMemLimit, 0, l...)
}

// P20.8: each field at the edges of what is legal.
func TestThereAndBackOfEachField(t *testing.T) {
	for _, f := range fields() {
		for _, v := range f.right {
			for _, data := range [][]byte{nil, {7}, text(200), slope(600), noise(8, 300)} {
				c := usual
				f.set(&c, v)
				wantBack(t, data, c)
			}
		}
	}
}

// P20.8: every legal shape: all properties, in each mode, with and without a distance.
func TestThereAndBackOfShapes(t *testing.T) {
	t.Parallel()
	for lc := range 5 {
		for lp := range 5 - lc {
			for pb := range 5 {
				for _, mode := range modes {
					for _, dist := range []int{0, 1, 256} {
						c := api.Config{Check: []int{0, 1, 4, 10}[pb%4], Delta: dist, Props: api.Props{LC: lc, LP: lp, PB: pb}, Dict: 4096 + lc*1000, Block: 1 + lp, Mode: mode}
						wantBack(t, append(text(90), slope(300)...), c)
					}
				}
			}
		}
	}
}

// P20.8: every distance.
func TestThereAndBackOfDistances(t *testing.T) {
	t.Parallel()
	for dist := range 257 {
		for _, n := range []int{0, 1, dist, dist + 1, 2*dist + 3, 700} {
			c := usual
			c.Delta, c.Mode = dist, modes[(n+dist)%3]
			wantBack(t, slope(n), c)
			wantBack(t, noise(int64(dist), n), c)
		}
	}
}

// P20.8: dictionaries at and beside each size that a byte can tell.
func TestThereAndBackOfDictionaries(t *testing.T) {
	t.Parallel()
	for _, n := range dicts() {
		for _, dict := range []int{n - 1, n, n + 1} {
			if dict >= 4096 && dict <= 67108864 {
				c := usual
				c.Dict, c.Delta = dict, dict%3
				wantBack(t, text(500), c)
			}
		}
	}
}

// P20.8: data of several pieces, raw and packed ones among them, that come again from beyond the dictionary.
func TestThereAndBackOfLongData(t *testing.T) {
	t.Parallel()
	long := bytes.Join([][]byte{text(65536), noise(4, 65536), slope(40000), text(30000), noise(4, 5000)}, nil)
	for _, n := range []int{65535, 65536, 65537, len(long)} {
		for _, dist := range []int{0, 2, 256} {
			for _, mode := range modes {
				c := api.Config{Delta: dist, Props: api.Props{LC: 3, PB: 2}, Dict: 6000, Block: 1 << 20, Mode: mode}
				wantBack(t, long[:n], c)
			}
		}
	}
}

// P20.8: a chain goes through a header's bytes, filter by filter.
func TestChainsThereAndBack(t *testing.T) {
	for _, dist := range []int{0, 1, 128, 255, 256} {
		for _, dict := range []int{4096, 4097, 67108864} {
			c := usual
			c.Delta, c.Dict = dist, dict
			want := chainOf(t, c)
			var b []byte
			for _, f := range want {
				x, _ := chain.Put(f)
				b = append(b, x...)
			}
			var l []api.Filter
			for len(b) > 0 {
				f, n, errno := chain.Get(b)
				if errno != api.OK || n == 0 {
					t.Fatalf("Get(%s): %d, error %d", shown(b), n, errno)
				}
				l, b = append(l, f), b[n:]
			}
			if !sameLists(l, want) {
				t.Errorf("%s became %s", told(want...), told(l...))
			}
		}
	}
}
