package lzdec

import (
	"pith/api"
	"pith/model"
	"pith/prob"
	"pith/state"
)

// read: the next symbol, whether or not it may be applied. (A source that fails within it makes it any symbol.)
func (c *coder) read(from *source) api.Symbol {
	n, ps := c.state.Num, c.PlaceState(c.dict.Pos())
	if from.bit(c.IsMatch[n], ps) == 0 {
		return api.Symbol{Kind: api.SymLit, Byte: c.literal(from)}
	}
	if from.bit(c.IsRep, n) == 0 {
		long := length(from, &c.Match, ps)
		return api.Symbol{Kind: api.SymMatch, Len: long, Dist: c.far(from, long)}
	}
	number := c.which(from, n)
	if number == 0 && from.bit(c.IsLong[n], ps) == 0 {
		return api.Symbol{Kind: api.SymShort}
	}
	return api.Symbol{Kind: api.SymRep, Len: length(from, &c.Rep, ps), Dist: number}
}

// which: of the last four distances.
func (c *coder) which(from *source, n int) int {
	for number, row := range [...]*prob.Set{c.IsRep0, c.IsRep1, c.IsRep2} {
		if from.bit(row, n) == 0 {
			return number
		}
	}
	return 3
}

func (c *coder) literal(from *source) byte {
	// With an empty dictionary Last answers 0 beside its error, which is the byte before then.
	before, _ := c.dict.Last(1)
	row := c.LiteralRow(c.dict.Pos(), before)
	if c.state.Literal() {
		return byte(from.tree(row, model.ByteBits))
	}
	// A copy came from there, and the dictionary has not been begun anew since: so the byte is in it.
	twin, _ := c.dict.Last(c.state.Reps[0])
	return against(from, row, twin)
}

// against: a byte whose bits are held against those of the one that a copy would have gone on with, as long as they are the same.
func against(from *source, row *prob.Set, twin byte) byte {
	node, same := 1, true
	for i := model.ByteBits - 1; i >= 0; i-- {
		other := int(twin >> i & 1)
		place := node
		if same {
			place += (1 + other) << model.ByteBits
		}
		bit := from.bit(row, place)
		node = 2*node + bit
		same = same && bit == other
	}
	return byte(node - 1<<model.ByteBits)
}

func length(from *source, l *model.Lengths, ps int) int {
	const many = 1 << model.ShortBits
	if from.bit(l.Choice, 0) == 0 {
		return api.MinLen + from.tree(l.Low[ps], model.ShortBits)
	}
	if from.bit(l.Choice, 1) == 0 {
		return api.MinLen + many + from.tree(l.Mid[ps], model.ShortBits)
	}
	return api.MinLen + 2*many + from.tree(l.High, model.HighBits)
}

// far: the distance of a match that has n bytes; it may be one more than the greatest that there is.
func (c *coder) far(from *source, n int) int {
	slot := from.tree(c.SlotTree(n), model.SlotBits)
	least, bits, _ := state.Range(slot)
	switch {
	case slot < model.FirstRest:
		return least
	case slot < model.FirstDirect:
		return least + from.back(c.Rest[slot-model.FirstRest], bits)
	}
	high := from.direct(bits - model.AlignBits)
	return least + high<<model.AlignBits + from.back(c.Align, model.AlignBits)
}
