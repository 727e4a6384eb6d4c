package lzenc

import (
	"pith/api"
	"pith/model"
	"pith/state"
	"pith/window"
)

// coder: all that a symbol's bits hang on. It stands in a field of the encoder that has a name, so that what is embedded here is not to be had from outside.
type coder struct {
	model.Tables
	dict  *window.Window
	state state.State
}

func (c *coder) fork() coder {
	return coder{Tables: c.Tables.Fork(), dict: c.dict.Fork(), state: c.state}
}

// refuses: the error that symbol.Apply would have, asked without a change.
func (c *coder) refuses(y api.Symbol) api.Errno {
	if _, errno := c.state.Next(y); errno != api.OK {
		return errno
	}
	if y.Kind == api.SymLit {
		return api.OK
	}
	_, errno := c.dict.Last(c.distance(y))
	return errno
}

// distance: of a formed symbol that is no literal.
func (c *coder) distance(y api.Symbol) int {
	switch y.Kind {
	case api.SymMatch:
		return y.Dist
	case api.SymRep:
		return c.state.Reps[y.Dist]
	}
	return c.state.Reps[0]
}
