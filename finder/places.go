package finder

import "pith/api"

// width: how many bytes a place is known by.
const width = 3

// left: how many bytes stand from the place on.
func (f *Finder) left() int { return len(f.data) - f.pos }

// reach: how long a match at the place can be.
func (f *Finder) reach(most int) int {
	return min(most, api.MaxLen, f.left())
}

// three: the three bytes from p on, as one number.
func (f *Finder) three(p int) uint32 {
	return uint32(f.data[p])<<16 | uint32(f.data[p+1])<<8 | uint32(f.data[p+2])
}

// note: p becomes the nearest place of its three bytes, if so many begin there. Of places further back than Depth of them none is ever looked at: they are let go.
func (f *Finder) note(p int) {
	if len(f.data)-p < width {
		return
	}
	key := f.three(p)
	list := append(f.places[key], p)
	f.places[key] = list[max(0, len(list)-api.Depth):]
}

// candidates: those of the place, from which three bytes must be left; the nearest one last.
func (f *Finder) candidates() []int {
	list := f.places[f.three(f.pos)]
	for len(list) > 0 && f.pos-list[0] > f.dict {
		list = list[1:]
	}
	return list
}

// alike: how many bytes from q on are the same as those from p on, at most reach.
func (f *Finder) alike(q, p, reach int) int {
	n := 0
	for n < reach && f.data[q+n] == f.data[p+n] {
		n++
	}
	return n
}
