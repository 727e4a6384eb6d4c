package rcenc

import "slices"

// full: a digit that one more carries through, into the digit ahead of it.
const full = 0xFF

// lowEnd: a whole number of any size to the base 256, the highest digit first: the settled ones, the held one, a run of full ones, the four of rest.
// A carry comes no further than to the held digit: that was not full when it was shifted up, and takes one carry at most, as rest and the range together are less than two of it.
type lowEnd struct {
	settled []byte
	held    byte
	run     int
	rest    uint32
}

// add: v more, modulo 2^32 in rest; what wraps there is carried.
func (l *lowEnd) add(v uint32) {
	l.rest += v
	if l.rest < v {
		l.carry()
	}
}

// carry: one more behind the run, which becomes zeros; the last digit ahead of rest is then the one to hold.
func (l *lowEnd) carry() {
	l.held++
	for ; l.run > 0; l.run-- {
		l.settled = append(l.settled, l.held)
		l.held = 0
	}
}

// shift: 256 times what it was; the highest digit of rest goes up.
func (l *lowEnd) shift() {
	top := byte(l.rest >> 24)
	l.rest <<= 8
	if top == full {
		l.run++
		return
	}
	l.settle()
	l.held = top
}

// settle: no carry comes through a digit that is not full, so those ahead of it stay as they are.
func (l *lowEnd) settle() {
	l.settled = append(l.settled, l.held)
	for ; l.run > 0; l.run-- {
		l.settled = append(l.settled, full)
	}
}

func (l *lowEnd) size() int {
	return len(l.settled) + 1 + l.run + 4
}

func (l *lowEnd) digits() []byte {
	b := make([]byte, 0, l.size())
	b = append(b, l.settled...)
	b = append(b, l.held)
	for range l.run {
		b = append(b, full)
	}
	return append(b, byte(l.rest>>24), byte(l.rest>>16), byte(l.rest>>8), byte(l.rest))
}

func (l *lowEnd) fork() lowEnd {
	f := *l
	f.settled = slices.Clone(l.settled)
	return f
}
