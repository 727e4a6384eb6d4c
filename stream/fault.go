package stream

import (
	"errors"
	"strconv"

	"pith/api"
)

// What can be wrong.
var (
	Truncated   = errors.New("stream: the bytes end too early")
	Format      = errors.New("stream: the bytes are none of the format")
	Check       = errors.New("stream: a sum is not that of the bytes that it covers")
	Unsupported = errors.New("stream: of the format, but not of what is read here")
	MemLimit    = errors.New("stream: a dictionary that is told is above the limit")
	Config      = errors.New("stream: a configuration, or an argument, that is not allowed")
	Range       = errors.New("stream: a place or a length that is not there")
	Name        = errors.New("stream: a name that is none, or not there")
	Twice       = errors.New("stream: a name that is there already")
)

// Fault: what is wrong, and from where on: the place at which what could not be read began.
type Fault struct {
	Off int
	Err error
}

// Error: told in words.
func (f *Fault) Error() string {
	what := "stream: wrong in a way that is not told"
	if f.Err != nil {
		what = f.Err.Error()
	}
	return what + ", from byte " + strconv.Itoa(f.Off) + " on"
}

// Unwrap: what is wrong.
func (f *Fault) Unwrap() error { return f.Err }

// Code: the number of an error; OK: there is none.
func Code(e error) api.Errno {
	if e == nil {
		return api.OK
	}
	for _, w := range wrongs() {
		if errors.Is(e, w.err) {
			return w.errno
		}
	}
	return api.ErrFormat
}

// wrong: what can be wrong, as a value and as a number.
type wrong struct {
	err   error
	errno api.Errno
}

// wrongs: all that can be, in the order in which Code asks for them.
func wrongs() []wrong {
	return []wrong{
		{Truncated, api.ErrTruncated},
		{Format, api.ErrFormat},
		{Check, api.ErrCheck},
		{Unsupported, api.ErrUnsupported},
		{MemLimit, api.ErrMemLimit},
		{Config, api.ErrConfig},
		{Range, api.ErrRange},
		{Name, api.ErrName},
		{Twice, api.ErrTwice},
	}
}

// faultAt: a new fault each time, so that no two are one.
func faultAt(off int, errno api.Errno) error {
	for _, w := range wrongs() {
		if w.errno == errno {
			return &Fault{Off: off, Err: w.err}
		}
	}
	return &Fault{Off: off, Err: Format}
}
