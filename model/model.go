// Package model: the probabilities by which symbols are coded, as a struct of rows that a coder embeds. (Beside the layers; the table of the document's chapter 14.)
package model

import (
	"pith/api"
	"pith/prob"
	"pith/state"
)

// How many bits the numbers have that are coded along trees.
const (
	ByteBits  = 8 // a literal's byte
	ShortBits = 3 // a length's rest by Low and by Mid
	HighBits  = 8 // a length's rest by High
	SlotBits  = 6
	AlignBits = 4
)

// The slots from which on the rest of a distance has a tree of its own, and from which on just its last bits have one, which they share.
const (
	FirstRest   = 4
	FirstDirect = 14
)

// Tables: what is learnt of symbols but for the state. A tree begins at the number 0 of its row.
type Tables struct {
	Props                         api.Props
	IsMatch, IsLong               []*prob.Set // by the state's number; a row goes by the place state
	IsRep, IsRep0, IsRep1, IsRep2 *prob.Set   // by the state's number
	Literal                       []*prob.Set // by what LiteralRow reckons
	Match, Rep                    Lengths
	Slot                          []*prob.Set // by what SlotTree reckons
	Rest                          []*prob.Set // by the slot less FirstRest
	Align                         *prob.Set
}

// Lengths: a length coder.
type Lengths struct {
	Choice   *prob.Set   // two: Choice, Choice2
	Low, Mid []*prob.Set // by the place state
	High     *prob.Set
}

const (
	numLiteral = 3 << ByteBits // a tree, and one more for each bit of the byte that a literal is held against
	numSlot    = 4             // the trees of slots
	mostRest   = 5             // bits of the rest in the slots ahead of FirstDirect
)

// New: with these properties, all of them Half.
func New(p api.Props) (Tables, api.Errno) {
	if _, errno := state.PropsByte(p); errno != api.OK {
		return Tables{}, errno
	}
	places := 1 << p.PB
	return Tables{
		Props:   p,
		IsMatch: rows(api.NumStates, places),
		IsLong:  rows(api.NumStates, places),
		IsRep:   row(api.NumStates),
		IsRep0:  row(api.NumStates),
		IsRep1:  row(api.NumStates),
		IsRep2:  row(api.NumStates),
		Literal: rows(1<<(p.LC+p.LP), numLiteral),
		Match:   newLengths(places),
		Rep:     newLengths(places),
		Slot:    rows(numSlot, 1<<SlotBits),
		Rest:    rows(FirstDirect-FirstRest, 1<<mostRest),
		Align:   row(1 << AlignBits),
	}, api.OK
}

func newLengths(places int) Lengths {
	return Lengths{
		Choice: row(2),
		Low:    rows(places, 1<<ShortBits),
		Mid:    rows(places, 1<<ShortBits),
		High:   row(1 << HighBits),
	}
}

// Fork: others that go on from here.
func (t *Tables) Fork() Tables {
	return Tables{
		Props:   t.Props,
		IsMatch: forks(t.IsMatch),
		IsLong:  forks(t.IsLong),
		IsRep:   t.IsRep.Fork(),
		IsRep0:  t.IsRep0.Fork(),
		IsRep1:  t.IsRep1.Fork(),
		IsRep2:  t.IsRep2.Fork(),
		Literal: forks(t.Literal),
		Match:   t.Match.fork(),
		Rep:     t.Rep.fork(),
		Slot:    forks(t.Slot),
		Rest:    forks(t.Rest),
		Align:   t.Align.Fork(),
	}
}

func (l *Lengths) fork() Lengths {
	return Lengths{
		Choice: l.Choice.Fork(),
		Low:    forks(l.Low),
		Mid:    forks(l.Mid),
		High:   l.High.Fork(),
	}
}

// PlaceState: of a place.
func (t *Tables) PlaceState(place int) int {
	return place & (1<<t.Props.PB - 1)
}

// LiteralRow: of a literal at a place, behind a byte.
func (t *Tables) LiteralRow(place int, before byte) *prob.Set {
	p := t.Props
	low := place & (1<<p.LP - 1)
	high := int(before) >> (ByteBits - p.LC)
	return t.Literal[low<<p.LC+high]
}

// SlotTree: of the distance of a match that is so long. The longest ones share a tree.
func (t *Tables) SlotTree(length int) *prob.Set {
	return t.Slot[min(length-api.MinLen, numSlot-1)]
}
