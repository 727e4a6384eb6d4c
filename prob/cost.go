package prob

// step: probabilities within one cost the same, what its middle costs.
const step = 16

// squarings: each gives one more binary digit of the logarithm, so four of them sixteenths.
const squarings = 4

// room: a number below it is squared within 32 bits.
const room = 1 << 16

// certain: the halvings that whole itself would have: nothing else is for free.
const certain = 161

// Cost: what a bit costs, in sixteenths of a bit.
func Cost(p int, bit int) int {
	p = within(p)
	if bit != 0 {
		p = whole - 1 - p
	}
	return costOfZero(p)
}

func costOfZero(p int) int {
	weight := uint32(p/step*step + step/2)
	halvings := 0
	for range squarings {
		weight *= weight
		halvings *= 2
		for weight >= room {
			weight /= 2
			halvings++
		}
	}
	return certain - halvings
}
