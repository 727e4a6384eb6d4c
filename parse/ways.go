package parse

import "pith/api"

// width: how many bytes a step that copies has at the least.
const width = 3

// reach: a match that may be taken at a place, whole or shortened down to width bytes.
type reach struct {
	most, dist int
	price      int // all but that of the length
}

// way: from a place to the end of the piece: its price, and its first step, of size bytes; the literal, if dist is 0. The size 0: no way is known.
type way struct {
	price      int
	size, dist int
}

// symbol: of the way's first step, where b is the byte at its place.
func (w way) symbol(b byte) api.Symbol {
	if w.dist == 0 {
		return literal(b)
	}
	return match(w.size, w.dist)
}

// chart: of each place of the piece, counted from the piece's front, what can be taken there, and the cheapest way that is known from there.
// The ways are looked for from the end back to the front: so the first step of each is at hand, by which ways of one price are told apart.
type chart struct {
	reaches []reach // of all places, one place's behind the other's; of one place the nearest first, each longer than those ahead of it
	begins  []int   // of each place and of the end: where its reaches begin
	longest int     // of all reaches
	ways    []way   // of each place and of the end
	open    Heap    // places whose way may still become cheaper
}

// cheapest: the plan of the piece.
func (c *piece) cheapest() []api.Symbol {
	bytes := c.data[c.at:]
	m := c.chart()
	m.search()
	var l []api.Symbol
	for at := 0; at < len(bytes); at += m.ways[at].size {
		l = append(l, m.ways[at].symbol(bytes[at]))
	}
	return l
}

// chart: with all that can be taken. The piece is gone through for it.
func (c *piece) chart() *chart {
	m := &chart{ways: make([]way, c.rest()+1)}
	for ; c.rest() > 0; c.skip(1) {
		m.begins = append(m.begins, len(m.reaches))
		c.note(m)
	}
	m.begins = append(m.begins, len(m.reaches))
	return m
}

// note: what can be taken at the place. A match that is no longer than a nearer one gives no step that would ever be chosen: none from further away is cheaper.
func (c *piece) note(m *chart) {
	longest, most := 0, c.most()
	for x := range c.seek.Matches(most) {
		if x.Len > longest {
			longest = x.Len
			m.reaches = append(m.reaches, reach{x.Len, x.Dist, distancePrice(x.Dist)})
		}
		if longest == most {
			break
		}
	}
	m.longest = max(m.longest, longest)
}

// search: the cheapest ways, from the end on, by their prices: what comes off the heap cannot become cheaper, for no step is free. So it ends when the front comes.
func (m *chart) search() {
	m.open.Push(0, len(m.ways)-1)
	for {
		price, at, ok := m.open.Pop()
		if !ok || at == 0 {
			return
		}
		if price == m.ways[at].price { // else a cheaper way was found behind this one
			m.lengthen(at)
		}
	}
}

// lengthen: the way from the place at, by each step that ends there.
func (m *chart) lengthen(at int) {
	behind := m.ways[at].price
	m.offer(at-1, way{price: literalPrice + behind, size: 1})
	for n := width; n <= min(m.longest, at); n++ {
		if r, ok := m.nearest(at-n, n); ok {
			m.offer(at-n, way{price: r.price + lengthPrice(n) + behind, size: n, dist: r.dist})
		}
	}
}

// nearest: from where n bytes can be taken at a place.
func (m *chart) nearest(place, n int) (reach, bool) {
	for _, r := range m.reaches[m.begins[place]:m.begins[place+1]] {
		if r.most >= n {
			return r, true
		}
	}
	return reach{}, false
}

// offer: a way from a place; it is taken, if it is the cheapest so far, or as cheap and with a longer first step.
func (m *chart) offer(place int, w way) {
	known := m.ways[place]
	less := known.size == 0 || w.price < known.price
	if less {
		m.open.Push(w.price, place)
	}
	if less || w.price == known.price && w.size > known.size {
		m.ways[place] = w
	}
}
