package lzenc

import (
	"pith/api"
	"pith/model"
	"pith/prob"
	"pith/state"
)

// spell: the bits of a symbol that is not refused, in their order, by the pen.
func (c *coder) spell(to pen, y api.Symbol) {
	n, ps := c.state.Num, c.PlaceState(c.dict.Pos())
	if y.Kind == api.SymLit {
		to.bit(c.IsMatch[n], ps, 0)
		c.literal(to, y.Byte)
		return
	}
	to.bit(c.IsMatch[n], ps, 1)
	switch y.Kind {
	case api.SymMatch:
		to.bit(c.IsRep, n, 0)
		length(to, &c.Match, ps, y.Len)
		c.far(to, y.Len, y.Dist)
	case api.SymShort:
		to.bit(c.IsRep, n, 1)
		c.first(to, n, ps, 0)
	case api.SymRep:
		to.bit(c.IsRep, n, 1)
		c.which(to, n, ps, y.Dist)
		length(to, &c.Rep, ps, y.Len)
	}
}

// which: of the last four distances, for a rep.
func (c *coder) which(to pen, n, ps, number int) {
	if number == 0 {
		c.first(to, n, ps, 1)
		return
	}
	to.bit(c.IsRep0, n, 1)
	if number == 1 {
		to.bit(c.IsRep1, n, 0)
		return
	}
	to.bit(c.IsRep1, n, 1)
	to.bit(c.IsRep2, n, number-2)
}

// first: the first of the last distances, which a short rep (long is 0) and a rep (long is 1) may have.
func (c *coder) first(to pen, n, ps, long int) {
	to.bit(c.IsRep0, n, 0)
	to.bit(c.IsLong[n], ps, long)
}

func (c *coder) literal(to pen, b byte) {
	// With an empty dictionary Last answers 0 beside its error, which is the byte before then.
	before, _ := c.dict.Last(1)
	row := c.LiteralRow(c.dict.Pos(), before)
	if c.state.Literal() {
		to.tree(row, model.ByteBits, int(b))
		return
	}
	// A copy came from there, and the dictionary has not been begun anew since: so the byte is in it.
	twin, _ := c.dict.Last(c.state.Reps[0])
	against(to, row, b, twin)
}

// against: the bits of b, held against those of the byte that a copy would have gone on with, as long as they are the same.
func against(to pen, row *prob.Set, b, twin byte) {
	node, same := 1, true
	for i := model.ByteBits - 1; i >= 0; i-- {
		bit, other := int(b>>i&1), int(twin>>i&1)
		place := node
		if same {
			place += (1 + other) << model.ByteBits
		}
		to.bit(row, place, bit)
		node = 2*node + bit
		same = same && bit == other
	}
}

func length(to pen, l *model.Lengths, ps, n int) {
	const many = 1 << model.ShortBits
	x := n - api.MinLen
	if x < many {
		to.bit(l.Choice, 0, 0)
		to.tree(l.Low[ps], model.ShortBits, x)
		return
	}
	to.bit(l.Choice, 0, 1)
	if x < 2*many {
		to.bit(l.Choice, 1, 0)
		to.tree(l.Mid[ps], model.ShortBits, x-many)
		return
	}
	to.bit(l.Choice, 1, 1)
	to.tree(l.High, model.HighBits, x-2*many)
}

// far: the distance of a match that has n bytes.
func (c *coder) far(to pen, n, dist int) {
	slot, _ := state.Slot(dist)
	least, bits, _ := state.Range(slot)
	rest := dist - least
	to.tree(c.SlotTree(n), model.SlotBits, slot)
	switch {
	case slot < model.FirstRest:
		// These have one distance each: nothing is left to tell.
	case slot < model.FirstDirect:
		to.back(c.Rest[slot-model.FirstRest], bits, rest)
	default:
		to.direct(rest>>model.AlignBits, bits-model.AlignBits)
		to.back(c.Align, model.AlignBits, rest&(1<<model.AlignBits-1))
	}
}
