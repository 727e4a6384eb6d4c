package stream_test

import (
	"errors"
	"fmt"
	"io"
	"math"
	"strings"
	"testing"

	"pith/api"
	"pith/stream"
)

// P25.7: the nine are there, no two are the same, and none wraps another.
func TestTheNine(t *testing.T) {
	for i, one := range nine {
		if one.err == nil || one.err.Error() == "" {
			t.Fatalf("the error %d: %v", one.errno, one.err)
		}
		if errors.Unwrap(one.err) != nil {
			t.Errorf("%v wraps %v", one.err, errors.Unwrap(one.err))
		}
		for k, other := range nine {
			if (i == k) != errors.Is(one.err, other.err) || (i == k) != (one.err == other.err) || (i == k) != (one.err.Error() == other.err.Error()) {
				t.Errorf("%v and %v", one.err, other.err)
			}
		}
		var f *stream.Fault
		if errors.As(one.err, &f) {
			t.Errorf("%v is a fault: %v", one.err, f)
		}
	}
}

// P25.7: nil, each of the nine, faults of them, what wraps them, and the first of several in the order of the nine.
func TestCode(t *testing.T) {
	want := func(e error, want api.Errno) {
		t.Helper()
		if errno := stream.Code(e); errno != want {
			t.Errorf("Code(%v): %d; want %d", e, errno, want)
		}
	}
	want(nil, api.OK)
	for i, one := range nine {
		fault := &stream.Fault{Off: 7, Err: one.err}
		for _, e := range []error{one.err, fault, fmt.Errorf("far: %w", one.err), fmt.Errorf("far: %w", fmt.Errorf("near: %w", fault)), &stream.Fault{Off: 1, Err: fault}, errors.Join(io.EOF, fault), errors.Join(nil, one.err)} {
			want(e, one.errno)
		}
		for k, other := range nine {
			first := nine[min(i, k)].errno
			want(errors.Join(one.err, other.err), first)
			want(fmt.Errorf("%w and %w", fault, other.err), first)
			want(&stream.Fault{Err: errors.Join(other.err, fault)}, first)
		}
	}
}

// alike: an error of others that says of itself that it is one of the nine.
type alike struct{ err error }

func (a alike) Error() string        { return "alike" }
func (a alike) Is(target error) bool { return target == a.err }

// odd: an error of others that cannot be compared.
type odd []int

func (o odd) Error() string { return "odd" }

// P25.7: errors of others: ErrFormat, if errors.Is finds none of the nine in them.
func TestCodeOfOthers(t *testing.T) {
	for _, e := range []error{io.EOF, errors.New(""), errors.New(stream.Range.Error()), fmt.Errorf("%v", stream.Range), &stream.Fault{}, &stream.Fault{Off: -1}, &stream.Fault{Err: io.EOF}, &stream.Fault{Err: &stream.Fault{}}, fmt.Errorf("far: %w", &stream.Fault{Off: 3}), errors.Join(io.EOF, io.ErrNoProgress), odd{1}, &stream.Fault{Err: odd{}}} {
		if errno := stream.Code(e); errno != api.ErrFormat {
			t.Errorf("Code(%v): %d; want %d", e, errno, api.ErrFormat)
		}
	}
	for _, one := range nine {
		if errno := stream.Code(alike{one.err}); errno != one.errno {
			t.Errorf("Code of what is %v by its own word: %d", one.err, errno)
		}
	}
}

// P25.7: faults that the caller makes: words, and what they wrap.
func TestFaultsOfTheCaller(t *testing.T) {
	for _, err := range []error{nil, stream.Truncated, stream.Twice, io.EOF, errors.New(""), &stream.Fault{}, &stream.Fault{Off: 9, Err: stream.Name}, odd{}} {
		for _, off := range []int{0, 1, -1, 12, math.MaxInt, math.MinInt} {
			f := &stream.Fault{Off: off, Err: err}
			if f.Error() == "" {
				t.Errorf("a fault at %d of %v has no words", off, err)
			}
			if _, cannot := err.(odd); !cannot && (f.Unwrap() != err || errors.Unwrap(f) != err) {
				t.Errorf("a fault at %d of %v wraps %v", off, err, f.Unwrap())
			}
			if f.Off != off {
				t.Errorf("the place of %v became %d", f, f.Off)
			}
		}
	}
	f := &stream.Fault{Off: 77, Err: stream.Check}
	if s := f.Error(); !strings.Contains(s, "77") || !strings.Contains(s, stream.Check.Error()) {
		t.Errorf("the words of a fault: %q", s)
	}
	f.Off, f.Err = 78, stream.Range
	if s := f.Error(); !strings.Contains(s, "78") || stream.Code(f) != api.ErrRange {
		t.Errorf("the words of another: %q", s)
	}
}

// faults: of each kind that this layer answers, made anew with each call.
func faults(t *testing.T) []error {
	t.Helper()
	f := abcFile()
	c := bare
	c.Block = 0
	_, e := stream.Encode(nil, c)
	all := []error{e}
	for _, b := range [][]byte{nil, turned(f, 0, 1), turned(f, 8, 1), headerOf(0, 3), f} {
		_, one := stream.Decode(b, 0)
		_, _, two := stream.Places(b, 0)
		all = append(all, one, two)
	}
	return all
}

// P25.7: each fault is found by errors.As, what it wraps by errors.Is, and no two are one.
func TestNoTwoFaultsAreOne(t *testing.T) {
	all := append(faults(t), faults(t)...)
	met := map[error]int{}
	for i, one := range all {
		var f *stream.Fault
		if !errors.As(one, &f) || !errors.As(fmt.Errorf("far: %w", one), &f) || error(f) != one {
			t.Fatalf("%v is no fault", one)
		}
		met[f.Err]++
		if !errors.Is(one, f.Err) || !errors.Is(one, one) {
			t.Errorf("%v is not %v", one, f.Err)
		}
		for _, other := range all[i+1:] {
			if one == other || errors.Is(one, other) || errors.Is(other, one) {
				t.Errorf("%v and %v are one", one, other)
			}
		}
	}
	for _, want := range nine[:6] {
		if met[want.err] == 0 {
			t.Errorf("%v was not met", want.err)
		}
	}
}

// P25.8: what the caller makes of a fault no later one shows.
func TestFaultsAreNewMemory(t *testing.T) {
	for range 2 {
		for _, e := range faults(t) {
			var f *stream.Fault
			if !errors.As(e, &f) || f.Off > 12 || f.Off < 0 || stream.Code(f) > api.ErrConfig {
				t.Fatalf("%v is no fault", e)
			}
			f.Off, f.Err = 99, stream.Twice
		}
		wantFault(t, nil, 0, stream.Truncated, 0)
		wantFault(t, abcFile(), 0, stream.MemLimit, 12)
		wantNotEncoded(t, nil, api.Config{})
	}
}
