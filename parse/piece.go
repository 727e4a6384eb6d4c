package parse

import (
	"slices"

	"pith/api"
	"pith/finder"
	"pith/state"
)

// piece: the bytes that become symbols, and the dictionary ahead of them; further back nothing is ever copied from, and behind the piece nothing is looked at. Places are counted from the front of these bytes.
type piece struct {
	data []byte
	dict int
	at   int // the place up to which there are symbols
	seek *finder.Finder
}

// open: at the front of data[from:to].
func open(data []byte, from, to, dict int) (*piece, api.Errno) {
	if from < 0 || to < from || to > len(data) {
		return nil, api.ErrRange
	}
	ahead := min(from, max(dict, 0)) // the finder may still refuse the dictionary
	near := data[from-ahead : to]
	seek, errno := finder.New(near, dict)
	if errno != api.OK {
		return nil, errno
	}
	c := &piece{data: near, dict: dict, seek: seek}
	c.skip(ahead)
	return c, api.OK
}

// openBehind: likewise, behind a state, which must be right.
func openBehind(data []byte, from, to, dict int, s state.State) (*piece, api.Errno) {
	c, errno := open(data, from, to, dict)
	if errno != api.OK {
		return nil, errno
	}
	// A literal is always formed, so what is refused here is the state.
	if _, errno := s.Next(literal(0)); errno != api.OK {
		return nil, errno
	}
	return c, api.OK
}

// rest: how many bytes are still to become symbols.
func (c *piece) rest() int { return len(c.data) - c.at }

// most: how many bytes a symbol at the place can have.
func (c *piece) most() int { return min(api.MaxLen, c.rest()) }

// skip: n bytes on, of those that are left.
func (c *piece) skip(n int) {
	c.seek.Skip(n)
	c.at += n
}

// usable: can a byte at the place p be copied from that distance?
func (c *piece) usable(p, dist int) bool { return dist >= 1 && dist <= min(p, c.dict) }

// run: how many bytes from the place on are each the one that lies dist before it; 0, if that distance is not usable.
func (c *piece) run(dist int) int {
	if !c.usable(c.at, dist) {
		return 0
	}
	n, most := 0, c.most()
	for n < most && c.data[c.at+n] == c.data[c.at+n-dist] {
		n++
	}
	return n
}

// longest: of the last four distances the number of the one with the longest run, the lowest of several, and that run; 0 and 0, if none has a run that is long enough for a rep.
func (c *piece) longest(reps [4]int) (number, run int) {
	for i, dist := range reps {
		if n := c.run(dist); n >= api.MinLen && n > run {
			number, run = i, n
		}
	}
	return number, run
}

// first: the symbol that is taken at the place, if nothing is weighed that comes later.
func (c *piece) first(s state.State) api.Symbol {
	number, run := c.longest(s.Reps)
	best := c.seek.Best(c.most())
	switch {
	case run > 0 && run+1 >= best.Len:
		return rep(run, number)
	case best.Len > 0:
		return match(best.Len, best.Dist)
	case c.run(s.Reps[0]) == 1:
		return short()
	}
	return literal(c.data[c.at])
}

// told: a step of the cheapest plan at the place p, by what the state remembers.
func (c *piece) told(p int, y api.Symbol, s state.State) api.Symbol {
	last := s.Reps[0]
	if y.Kind == api.SymLit && c.usable(p, last) && c.data[p-last] == y.Byte {
		return short()
	}
	if number := slices.Index(s.Reps[:], y.Dist); y.Kind == api.SymMatch && number >= 0 {
		return rep(y.Len, number)
	}
	return y
}

func literal(b byte) api.Symbol { return api.Symbol{Kind: api.SymLit, Byte: b} }

func match(n, dist int) api.Symbol { return api.Symbol{Kind: api.SymMatch, Len: n, Dist: dist} }

func rep(n, number int) api.Symbol { return api.Symbol{Kind: api.SymRep, Len: n, Dist: number} }

func short() api.Symbol { return api.Symbol{Kind: api.SymShort} }
