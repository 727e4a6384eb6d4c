package parse_test

import (
	"strings"
	"testing"

	"pith/api"
	"pith/state"
)

// ofEqual: what Greedy answers of n equal bytes.
func ofEqual(b byte, n int) []api.Symbol {
	l := []api.Symbol{lit(b)}
	for n--; n > 1; n -= 273 {
		l = append(l, rep(min(n, 273), 0))
	}
	if n == 1 {
		l = append(l, short())
	}
	return l
}

// wantEqual: n bytes b, with that dictionary.
func wantEqual(t *testing.T, b byte, n, dict int) {
	t.Helper()
	want := ofEqual(b, n)
	v := view{strings.Repeat(string([]byte{b}), n), 0, n, dict}
	wantGreedy(t, v, state.New(), moved(t, state.New(), want...), want...)
}

// P16.8: as written out by hand.
func TestEqualBytesByHand(t *testing.T) {
	a := lit('a')
	for n, want := range map[int][]api.Symbol{
		1:   {a},
		2:   {a, short()},
		3:   {a, rep(2, 0)},
		4:   {a, rep(3, 0)},
		273: {a, rep(272, 0)},
		274: {a, rep(273, 0)},
		275: {a, rep(273, 0), short()},
		276: {a, rep(273, 0), rep(2, 0)},
		546: {a, rep(273, 0), rep(272, 0)},
		547: {a, rep(273, 0), rep(273, 0)},
		548: {a, rep(273, 0), rep(273, 0), short()},
		549: {a, rep(273, 0), rep(273, 0), rep(2, 0)},
	} {
		v := view{strings.Repeat("a", n), 0, n, 4096}
		wantGreedy(t, v, state.New(), moved(t, state.New(), want...), want...)
	}
}

// P16.8: of each length up to 900, with the least and the greatest dictionary.
func TestEqualBytes(t *testing.T) {
	for n := 1; n <= 900; n++ {
		wantEqual(t, byte(n), n, []int{1, 2, 4096, api.MaxTold}[n%4])
	}
}

// P16.8: of each byte, and of very many.
func TestManyEqualBytes(t *testing.T) {
	for b := range 256 {
		wantEqual(t, byte(b), 280, 4096)
	}
	for _, n := range []int{65535, 65536, 273 * 1000, 273*1000 + 1, 273*1000 + 2, 273*1000 + 3, 1 << 20} {
		wantEqual(t, 0, n, 1<<20)
		wantEqual(t, 255, n, 1)
	}
}
