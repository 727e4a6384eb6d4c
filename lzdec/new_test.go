package lzdec_test

import (
	"fmt"
	"testing"

	"pith/api"
	"pith/lzdec"
)

func wantNone(t *testing.T, p api.Props, dict int, want api.Errno) {
	t.Helper()
	if d, errno := lzdec.New(p, dict); d != nil || errno != want {
		t.Errorf("New(%+v, %d): %v, error %d; want none, error %d", p, dict, d, errno, want)
	}
}

// P15.1: all properties that are allowed, with the least and the greatest dictionaries: a decoder that takes what is written for it.
func TestNew(t *testing.T) {
	for _, p := range allProps() {
		for _, dict := range []int{1, 2, 4096, api.MaxTold - 1, api.MaxTold} {
			newPair(t, p, dict).same(t)
		}
	}
}

// P15.1: properties beyond their bounds are ErrConfig, whatever the dictionary is.
func TestNewWithWrongProps(t *testing.T) {
	for _, p := range wrongProps {
		for _, dict := range []int{4096, 1, api.MaxTold, 0, -1, api.MaxTold + 1, least, greatest} {
			wantNone(t, p, dict, api.ErrConfig)
		}
	}
}

// P15.1: with right properties the dictionary is the window's to refuse.
func TestNewWithWrongDictionaries(t *testing.T) {
	for _, p := range allProps() {
		for _, dict := range []int{0, -1, api.MaxTold + 1, -4096, 1<<32 + 4096, least, greatest} {
			wantNone(t, p, dict, api.ErrRange)
		}
	}
}

// P15.1: nothing is learnt: each byte comes by probabilities that are Half, as a literal; whatever the properties are.
func TestNothingIsLearnt(t *testing.T) {
	for _, p := range boundProps {
		for b := range 256 {
			packed := coded(fmt.Sprintf("0 %08b", b))
			wantTaken(t, made(t, p, 4096), packed, []api.Symbol{lit(byte(b))}, []byte{byte(b)})
		}
	}
}

// P15.1: the dictionary is empty: no copy has anything to copy from.
func TestNothingHasCome(t *testing.T) {
	for _, p := range boundProps {
		for _, dict := range []int{1, 4096, api.MaxTold} {
			for bits, n := range map[string]int{"1 0 0 000 000000": 2, "1 1 0 0": 1, "1 1 0 1 0 000": 2, "1 1 1 0 0 000": 2, "1 1 1 1 0 0 000": 2, "1 1 1 1 1 0 000": 2} {
				wantRefused(t, made(t, p, dict), coded(bits), n, api.ErrFormat)
			}
		}
	}
}

// P15.1: the dictionary has the size that was asked for: a byte further back than that is not there any more.
func TestDictionarySize(t *testing.T) {
	for _, dict := range []int{1, 2, 3, 100, 4096} {
		for _, came := range []int{dict - 1, dict, dict + 1, 2*dict + 1, 5 * dict} {
			for dist := dict - 1; dist <= dict+1; dist++ {
				if dist < 1 {
					continue
				}
				a := newPair(t, usual, dict)
				a.raw(count(came)...)
				if dist <= min(dict, came) {
					a.take(t, match(3, dist), lit(4), rep(2, 0))
					a.same(t)
					continue
				}
				a.w.write(match(3, dist))
				wantRefused(t, a.d, a.w.cut(), 3, api.ErrFormat)
			}
		}
	}
}

// P15.1: the first four distances are 1: a short rep and each rep copy the last byte.
func TestFirstDistances(t *testing.T) {
	for i, bits := range []string{"1 1 0 1 0 001", "1 1 1 0 0 001", "1 1 1 1 0 0 001", "1 1 1 1 1 0 001"} {
		d := made(t, usual, 4096)
		d.Raw(5, 6)
		wantTaken(t, d, coded(bits), []api.Symbol{rep(3, i)}, []byte{6, 6, 6})
	}
	d := made(t, usual, 4096)
	d.Raw(5, 6)
	wantTaken(t, d, coded("1 1 0 0"), []api.Symbol{short()}, []byte{6})
}
