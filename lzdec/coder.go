package lzdec

import (
	"pith/api"
	"pith/model"
	"pith/rcdec"
	"pith/state"
	"pith/symbol"
	"pith/window"
)

// coder: all that a symbol's bits hang on. It stands in a field of the decoder that has a name, so that what is embedded here is not to be had from outside.
type coder struct {
	model.Tables
	dict  *window.Window
	state state.State
}

// take: the symbols of b and the n bytes that they make; or that b are no packed bytes of n bytes. Memory is taken as symbols are read, not for n.
func (c *coder) take(b []byte, n int) ([]api.Symbol, []byte, bool) {
	in, errno := rcdec.New(b)
	if errno != api.OK {
		return nil, nil, false
	}
	from := &source{in: in}
	var l []api.Symbol
	var made []byte
	for len(made) < n {
		y := c.read(from)
		if from.failed || symbol.Size(y) > n-len(made) {
			return nil, nil, false
		}
		piece, errno := c.apply(y)
		if errno != api.OK {
			return nil, nil, false
		}
		l, made = append(l, y), append(made, piece...)
	}
	return l, made, in.Done()
}

// apply: the bytes of a symbol come into the dictionary, and the state moves.
func (c *coder) apply(y api.Symbol) ([]byte, api.Errno) {
	piece, next, errno := symbol.Apply(c.dict, c.state, y)
	if errno != api.OK {
		return nil, errno
	}
	c.state = next
	return piece, api.OK
}
