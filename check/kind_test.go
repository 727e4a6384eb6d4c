package check_test

import (
	"testing"

	"pith/api"
	"pith/check"
)

// P5.1, P5.2: the chapter's examples.
func TestExamplesOfKinds(t *testing.T) {
	for kind, want := range map[int]int{0: 0, 1: 4, 3: 4, 4: 8, 9: 16, 10: 32, 15: 64} {
		if n, e := check.Size(kind); n != want || e != api.OK {
			t.Errorf("Size(%d): %d, error %d, want %d", kind, n, e, want)
		}
	}
	for _, kind := range []int{-1, 16} {
		if n, e := check.Size(kind); n != 0 || e != api.ErrConfig {
			t.Errorf("Size(%d): %d, error %d", kind, n, e)
		}
	}
	for kind, want := range map[int]api.Errno{0: api.OK, 1: api.OK, 2: api.ErrUnsupported, 10: api.OK, 11: api.ErrUnsupported, 16: api.ErrConfig} {
		if e := check.Read(kind); e != want {
			t.Errorf("Read(%d): error %d, want %d", kind, e, want)
		}
	}
}

// P5.1: every kind, also those that are not read here.
func TestSizeOfEveryKind(t *testing.T) {
	for kind := range 16 {
		if n, e := check.Size(kind); n != sizeOf(kind) || e != api.OK {
			t.Errorf("Size(%d): %d, error %d, want %d", kind, n, e, sizeOf(kind))
		}
	}
}

// P5.1: the size of a kind that is read here is that of its sums.
func TestSizeIsThatOfTheSum(t *testing.T) {
	for _, kind := range readKinds {
		n, _ := check.Size(kind)
		for _, b := range [][]byte{nil, []byte("a"), make([]byte, 100)} {
			if sum, e := check.Sum(kind, b); len(sum) != n || e != api.OK {
				t.Errorf("Sum(%d) has %d bytes, error %d, want %d", kind, len(sum), e, n)
			}
		}
	}
}

// P5.1: what is no kind.
func TestSizeOfNoKind(t *testing.T) {
	for _, kind := range noKinds {
		if n, e := check.Size(kind); n != 0 || e != api.ErrConfig {
			t.Errorf("Size(%d): %d, error %d", kind, n, e)
		}
	}
	for kind := 16; kind < 5000; kind++ {
		_, above := check.Size(kind)
		_, below := check.Size(15 - kind)
		if above != api.ErrConfig || below != api.ErrConfig {
			t.Errorf("Size(%d), Size(%d): errors %d, %d", kind, 15-kind, above, below)
		}
	}
}

// P5.2: every kind is either read or not supported; what is none is another error.
func TestReadOfEveryKind(t *testing.T) {
	for _, kind := range readKinds {
		if e := check.Read(kind); e != api.OK {
			t.Errorf("Read(%d): error %d", kind, e)
		}
	}
	for _, kind := range unreadKinds {
		if e := check.Read(kind); e != api.ErrUnsupported {
			t.Errorf("Read(%d): error %d", kind, e)
		}
	}
	for _, kind := range noKinds {
		if e := check.Read(kind); e != api.ErrConfig {
			t.Errorf("Read(%d): error %d", kind, e)
		}
	}
}

// P5.3, P5.4, P5.5: of a kind that is not read, and of what is none, each call tells Read's error, whatever else it is given.
func TestReadsErrorEverywhere(t *testing.T) {
	lists := [][]byte{nil, {}, {0}, []byte("abc"), make([]byte, 4), make([]byte, 8), make([]byte, 16), make([]byte, 32), make([]byte, 64)}
	for _, kind := range append(append([]int{}, unreadKinds...), noKinds...) {
		want := check.Read(kind)
		if s, e := check.New(kind); s != nil || e != want {
			t.Errorf("New(%d): %v, error %d, want %d", kind, s, e, want)
		}
		if sum, e := check.Sum(kind); len(sum) != 0 || e != want {
			t.Errorf("Sum(%d): % X, error %d, want %d", kind, sum, e, want)
		}
		if sum, e := check.Sum(kind, lists...); len(sum) != 0 || e != want {
			t.Errorf("Sum(%d, ..): % X, error %d, want %d", kind, sum, e, want)
		}
		for _, b := range lists {
			for _, sum := range lists {
				wantSame(t, want, kind, b, sum)
			}
		}
	}
}
