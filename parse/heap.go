package parse

// Heap: places by their prices, the cheapest first.
type Heap struct {
	pairs pile[pair]
}

type pair struct {
	price, place int
}

// cheaper: the lesser price; of equal ones the lesser place.
func cheaper(a, b pair) bool {
	if a.price != b.price {
		return a.price < b.price
	}
	return a.place < b.place
}

// Push: a place with a price.
func (h *Heap) Push(price, place int) {
	h.pairs.less = cheaper // the zero heap has none
	h.pairs.push(pair{price, place})
}

// Pop: the cheapest; of equally cheap ones the least place; false: there is none.
func (h *Heap) Pop() (int, int, bool) {
	p, ok := h.pairs.pop()
	return p.price, p.place, ok
}

// Len: how many there are.
func (h *Heap) Len() int { return len(h.pairs.items) }

// pile: items, of which the least is always at hand. They lie as a tree: below the number i are 2i + 1 and 2i + 2, and neither is less than it.
type pile[T any] struct {
	less  func(a, b T) bool
	items []T
}

func (p *pile[T]) push(item T) {
	p.items = append(p.items, item)
	p.rise(len(p.items) - 1)
}

// pop: the least item, taken off; or that there is none.
func (p *pile[T]) pop() (T, bool) {
	if len(p.items) == 0 {
		var none T
		return none, false
	}
	last := len(p.items) - 1
	least := p.items[0]
	p.items[0] = p.items[last]
	p.items = p.items[:last]
	p.sink(0)
	return least, true
}

// rise: the item number i goes up, till the one above it is not greater.
func (p *pile[T]) rise(i int) {
	for above := (i - 1) / 2; i > 0 && p.less(p.items[i], p.items[above]); above = (i - 1) / 2 {
		p.items[i], p.items[above] = p.items[above], p.items[i]
		i = above
	}
}

// sink: the item number i goes down, till none below it is less.
func (p *pile[T]) sink(i int) {
	for below := p.lesserBelow(i); below < len(p.items) && p.less(p.items[below], p.items[i]); below = p.lesserBelow(i) {
		p.items[i], p.items[below] = p.items[below], p.items[i]
		i = below
	}
}

// lesserBelow: of the two below the number i that of the lesser one; one that no item has, if there is none below.
func (p *pile[T]) lesserBelow(i int) int {
	one, other := 2*i+1, 2*i+2
	if other < len(p.items) && p.less(p.items[other], p.items[one]) {
		return other
	}
	return one
}
