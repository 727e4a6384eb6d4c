package model_test

import (
	"reflect"
	"slices"
	"testing"

	"pith/api"
	"pith/model"
	"pith/prob"
	"pith/state"
)

// lengthSets: the rows of a length coder.
func lengthSets(l model.Lengths) []*prob.Set {
	return slices.Concat([]*prob.Set{l.Choice, l.High}, l.Low, l.Mid)
}

// sets: all rows, whichever.
func sets(t model.Tables) []*prob.Set {
	lone := []*prob.Set{t.IsRep, t.IsRep0, t.IsRep1, t.IsRep2, t.Align}
	return slices.Concat(lone, t.IsMatch, t.IsLong, t.Literal, lengthSets(t.Match), lengthSets(t.Rep), t.Slot, t.Rest)
}

func made(t *testing.T, p api.Props) model.Tables {
	t.Helper()
	m, errno := model.New(p)
	if errno != api.OK {
		t.Fatalf("New(%+v): error %d", p, errno)
	}
	return m
}

// allProps: all properties that are allowed.
func allProps() []api.Props {
	var all []api.Props
	for b := range 256 {
		if p, errno := state.ByteProps(b); errno == api.OK {
			all = append(all, p)
		}
	}
	return all
}

func wantRow(t *testing.T, s *prob.Set, n int) {
	t.Helper()
	if s == nil || s.Len() != n {
		t.Errorf("a row of %v, want %d", s, n)
	}
}

func wantRows(t *testing.T, l []*prob.Set, many, n int) {
	t.Helper()
	if len(l) != many {
		t.Fatalf("%d rows, want %d", len(l), many)
	}
	for _, s := range l {
		wantRow(t, s, n)
	}
}

// The rows are those of chapter 14's table, and each probability is Half.
func TestRows(t *testing.T) {
	for _, p := range allProps() {
		m := made(t, p)
		wantRows(t, m.IsMatch, 12, 1<<p.PB)
		wantRows(t, m.IsLong, 12, 1<<p.PB)
		wantRows(t, []*prob.Set{m.IsRep, m.IsRep0, m.IsRep1, m.IsRep2}, 4, 12)
		wantRows(t, m.Literal, 1<<(p.LC+p.LP), 768)
		for _, l := range []model.Lengths{m.Match, m.Rep} {
			wantRow(t, l.Choice, 2)
			wantRows(t, l.Low, 1<<p.PB, 8)
			wantRows(t, l.Mid, 1<<p.PB, 8)
			wantRow(t, l.High, 256)
		}
		wantRows(t, m.Slot, 4, 64)
		wantRows(t, m.Rest, 10, 32)
		wantRow(t, m.Align, 16)
		for _, s := range sets(m) {
			for i := range s.Len() {
				if v, _ := s.At(i); v != prob.Half {
					t.Fatalf("a probability is %d", v)
				}
			}
		}
	}
}

// The rest of each slot that has a tree has room in it.
func TestRestsHaveRoom(t *testing.T) {
	m := made(t, api.Props{})
	for slot := model.FirstRest; slot < model.FirstDirect; slot++ {
		if _, bits, _ := state.Range(slot); 1<<bits > m.Rest[slot-model.FirstRest].Len() {
			t.Errorf("the slot %d has %d bits", slot, bits)
		}
	}
}

// Properties that are not allowed are ErrConfig, and there are no rows.
func TestWrongProps(t *testing.T) {
	for _, p := range []api.Props{{LC: -1}, {LP: -1}, {PB: -1}, {LC: 5}, {LP: 5}, {PB: 5}, {LC: 4, LP: 1}, {LC: 1 << 62, LP: 1 << 62}, {PB: -1 << 63}} {
		if m, errno := model.New(p); !reflect.DeepEqual(m, model.Tables{}) || errno != api.ErrConfig {
			t.Errorf("New(%+v): error %d", p, errno)
		}
	}
}

// No two rows are one: what moves in one moves in no other, nor in a fork, nor in other tables.
func TestRowsAreApart(t *testing.T) {
	m, other := made(t, api.Props{LC: 2, LP: 1, PB: 3}), made(t, api.Props{LC: 2, LP: 1, PB: 3})
	for k, s := range sets(m) {
		for range k % 7 {
			s.Turn(k%s.Len(), k%2)
		}
		s.Turn(0, 0)
	}
	f := m.Fork()
	if f.Props != m.Props || !reflect.DeepEqual(f, m) {
		t.Fatal("a fork is not like its elder")
	}
	all := slices.Concat(sets(m), sets(f), sets(other))
	for k, s := range all {
		was := make([]int, len(all))
		for i, u := range all {
			was[i], _ = u.At(1)
		}
		s.Turn(1, k%2)
		for i, u := range all {
			if now, _ := u.At(1); i != k && now != was[i] {
				t.Fatalf("the row %d moves with the row %d", i, k)
			}
		}
	}
}

// The place state is the place modulo 2^pb.
func TestPlaceState(t *testing.T) {
	for _, p := range allProps() {
		m := made(t, p)
		for _, place := range []int{0, 1, 2, 3, 7, 8, 15, 16, 17, 1000003, 1 << 40} {
			if ps := m.PlaceState(place); ps != place%(1<<p.PB) {
				t.Errorf("with %+v the place state of %d is %d", p, place, ps)
			}
		}
	}
}

// The row of a literal is number (the place modulo 2^lp) 2^lc + (the byte before div 2^(8 - lc)).
func TestLiteralRow(t *testing.T) {
	for _, p := range allProps() {
		m := made(t, p)
		for place := range 40 {
			for before := range 256 {
				c := place%(1<<p.LP)*(1<<p.LC) + before/(1<<(8-p.LC))
				if m.LiteralRow(place, byte(before)) != m.Literal[c] {
					t.Fatalf("with %+v, at %d behind %d: not the row %d", p, place, before, c)
				}
			}
		}
	}
}

// The tree of slots is number 0, 1 and 2 of the lengths 2, 3 and 4, and 3 of the others.
func TestSlotTree(t *testing.T) {
	m := made(t, api.Props{})
	for n := api.MinLen; n <= api.MaxLen; n++ {
		if m.SlotTree(n) != m.Slot[min(n-2, 3)] {
			t.Errorf("the length %d has another tree", n)
		}
	}
}
