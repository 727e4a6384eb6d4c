package lzenc_test

import (
	"testing"

	"pith/api"
	"pith/lzenc"
)

func wantNone(t *testing.T, p api.Props, dict int, want api.Errno) {
	t.Helper()
	if e, errno := lzenc.New(p, dict); e != nil || errno != want {
		t.Errorf("New(%+v, %d): %v, error %d; want none, error %d", p, dict, e, errno, want)
	}
}

// P14.1: all properties that are allowed, with small and great dictionaries: an encoder as at the beginning.
func TestNew(t *testing.T) {
	for _, p := range allProps() {
		for _, dict := range []int{1, 2, 4096, api.MaxTold - 1, api.MaxTold} {
			a := newPair(t, p, dict)
			a.same(t)
			wantNoBits(t, a.e)
		}
	}
}

// P14.1: properties beyond their bounds are ErrConfig, whatever the dictionary is.
func TestNewWithWrongProps(t *testing.T) {
	for _, p := range wrongProps {
		for _, dict := range []int{4096, 1, api.MaxTold, 0, -1, api.MaxTold + 1, least, greatest} {
			wantNone(t, p, dict, api.ErrConfig)
		}
	}
}

// P14.1: with right properties the dictionary is the window's to refuse.
func TestNewWithWrongDictionaries(t *testing.T) {
	for _, p := range allProps() {
		for _, dict := range []int{0, -1, api.MaxTold + 1, -4096, 1<<32 + 4096, least, greatest} {
			wantNone(t, p, dict, api.ErrRange)
		}
	}
}

// P14.1: what a new encoder takes: each literal, by probabilities that are Half, and nothing else, for the dictionary is empty.
func TestNothingHasCome(t *testing.T) {
	for _, p := range boundProps {
		for _, dict := range []int{1, 4096, api.MaxTold} {
			for _, y := range []api.Symbol{match(2, 1), match(273, api.MaxTold), rep(2, 0), rep(273, 1), rep(2, 2), rep(2, 3), short()} {
				wantRefused(t, made(t, p, dict), y, api.ErrRange)
			}
			wantSpelt(t, made(t, p, dict), lit(0xA5), "0 10100101")
		}
	}
}

// P14.1: the dictionary has the size that was asked for: a byte further back than that is not there any more.
func TestDictionarySize(t *testing.T) {
	for _, dict := range []int{1, 2, 3, 100, 4096} {
		a := newPair(t, usual, dict)
		a.raw(count(dict - 1)...)
		wantRefused(t, a.e, match(2, dict), api.ErrRange)
		a.raw(9)
		for range 3 {
			if _, errno := a.e.Cost(match(2, dict)); errno != api.OK {
				t.Errorf("the dictionary %d: error %d", dict, errno)
			}
			wantRefused(t, a.e, match(2, dict+1), api.ErrRange)
			a.raw(count(2*dict + 1)...)
		}
		a.put(t, match(3, dict), lit(4), rep(2, 0))
		a.same(t)
	}
}

// P14.1: the first four distances are 1: a short rep and each rep copy the last byte.
func TestFirstDistances(t *testing.T) {
	for i := range 4 {
		a := newPair(t, usual, 1)
		a.raw(5, 6)
		a.put(t, rep(3, i), lit(6), short())
		a.same(t)
	}
}
