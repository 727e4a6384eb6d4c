package chain_test

import (
	"testing"

	"pith/api"
)

// P20.4: the chapter's examples.
func TestOfOfExamples(t *testing.T) {
	c := usual
	wantOf(t, c, filter(33, 0))
	c.Delta, c.Dict = 256, 4097
	wantOf(t, c, filter(3, 255), filter(33, 1))
}

// P20.4: every distance.
func TestOfOfDistances(t *testing.T) {
	c := usual
	for c.Delta = 1; c.Delta <= 256; c.Delta++ {
		wantOf(t, c, filter(3, byte(c.Delta-1)), filter(33, 0))
	}
	c.Delta = 0
	wantOf(t, c, filter(33, 0))
}

// P20.4: dictionaries at and beside each size that a byte can tell, as far as they are legal.
func TestOfOfDictionaries(t *testing.T) {
	for _, dist := range []int{0, 1, 256} {
		met := 0
		for b, n := range dicts() {
			for _, size := range []int{n - 1, n, n + 1} {
				if size < 4096 || size > 67108864 {
					continue
				}
				least := byte(b)
				if size > n {
					least++
				}
				want := []api.Filter{lzma(least)}
				if dist > 0 {
					want = []api.Filter{apart(dist), lzma(least)}
				}
				c := usual
				c.Delta, c.Dict = dist, size
				wantOf(t, c, want...)
				met++
			}
		}
		if met != 3*29-2 {
			t.Errorf("%d dictionaries", met)
		}
	}
}

// P20.4: what else a configuration has is not told in its chain.
func TestOfHangsOnDeltaAndDictAlone(t *testing.T) {
	for _, f := range fields() {
		if f.name == "Delta" || f.name == "Dict" {
			continue
		}
		for _, v := range f.right {
			c := usual
			c.Delta, c.Dict = 7, 70000
			f.set(&c, v)
			wantOf(t, c, filter(3, 6), filter(33, 9))
		}
	}
}
