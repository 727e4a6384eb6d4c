package state_test

import (
	"math/rand"
	"slices"
	"testing"

	"pith/api"
	"pith/state"
)

// wantByte: of properties.
func wantByte(t *testing.T, p api.Props, want int) {
	t.Helper()
	if b, errno := state.PropsByte(p); b != want || errno != api.OK {
		t.Errorf("PropsByte(%+v): %d, error %d; want %d", p, b, errno, want)
	}
}

// wantNoByte: the properties are not allowed.
func wantNoByte(t *testing.T, p api.Props) {
	t.Helper()
	if b, errno := state.PropsByte(p); b != 0 || errno != api.ErrConfig {
		t.Errorf("PropsByte(%+v): %d, error %d; want ErrConfig", p, b, errno)
	}
}

// wantProps: of a byte.
func wantProps(t *testing.T, b int, want api.Props, wantErr api.Errno) {
	t.Helper()
	if p, errno := state.ByteProps(b); p != want || errno != wantErr {
		t.Errorf("ByteProps(%d): %+v, error %d; want %+v, error %d", b, p, errno, want, wantErr)
	}
}

// P12.5: the chapter's examples.
func TestPropsExamples(t *testing.T) {
	wantByte(t, api.Props{LC: 3, LP: 0, PB: 2}, 93)
	wantByte(t, api.Props{}, 0)
	wantByte(t, api.Props{LC: 0, LP: 4, PB: 4}, 216)
	wantByte(t, api.Props{LC: 4, LP: 0, PB: 4}, 184)
	wantNoByte(t, api.Props{LC: 3, LP: 2, PB: 0})
	wantNoByte(t, api.Props{PB: 5})
	wantNoByte(t, api.Props{LC: -1})
	wantProps(t, 93, api.Props{LC: 3, LP: 0, PB: 2}, api.OK)
	wantProps(t, 224, api.Props{}, api.ErrFormat)
	wantProps(t, 225, api.Props{}, api.ErrFormat)
	wantProps(t, 5, api.Props{}, api.ErrFormat)
	wantProps(t, 256, api.Props{}, api.ErrRange)
	wantProps(t, -1, api.Props{}, api.ErrRange)
}

// P12.5: each of the three from below 0 to above the greatest, with each of the others.
func TestPropsAroundTheEdges(t *testing.T) {
	for lc := -3; lc <= 10; lc++ {
		for lp := -3; lp <= 10; lp++ {
			for pb := -3; pb <= 10; pb++ {
				p := api.Props{LC: lc, LP: lp, PB: pb}
				if lc >= 0 && lp >= 0 && pb >= 0 && lc+lp <= 4 && pb <= 4 {
					wantByte(t, p, pb*45+lp*9+lc)
				} else {
					wantNoByte(t, p)
				}
			}
		}
	}
}

// P12.5: the least and the greatest numbers, whose sums wrap, also to such as would be allowed.
func TestPropsThatWrap(t *testing.T) {
	great := []int{least, least + 1, least + 4, -1 << 62, -1 << 32, -5, -1, 5, 1 << 32, 1 << 62, greatest - 4, greatest - 1, greatest}
	for _, x := range great {
		for _, y := range slices.Concat(great, []int{0, 1, 2, 4}) {
			for _, z := range slices.Concat(great, []int{0, 3}) {
				wantNoByte(t, api.Props{LC: x, LP: y, PB: z})
				wantNoByte(t, api.Props{LC: y, LP: x, PB: z})
				wantNoByte(t, api.Props{LC: y, LP: z, PB: x})
			}
		}
	}
	wantNoByte(t, api.Props{LC: 1 << 62, LP: 1 << 62})
	wantNoByte(t, api.Props{LC: 5, LP: -1})
	wantNoByte(t, api.Props{LC: -1, LP: 5})
}

// P12.5, P12.6: all bytes from -1 to 256: those that properties have are told, and back; the others are ErrFormat.
func TestEveryByte(t *testing.T) {
	byByte := map[int]api.Props{}
	for _, p := range propsOf() {
		byByte[(5*p.PB+p.LP)*9+p.LC] = p
	}
	if len(byByte) != 75 {
		t.Fatalf("%d bytes of properties", len(byByte))
	}
	wantProps(t, -1, api.Props{}, api.ErrRange)
	wantProps(t, 256, api.Props{}, api.ErrRange)
	for b := range 256 {
		p, there := byByte[b]
		if !there {
			wantProps(t, b, api.Props{}, api.ErrFormat)
			continue
		}
		wantProps(t, b, p, api.OK)
		wantByte(t, p, b)
	}
}

// P12.5: numbers that are no byte, also such as have a byte of properties at their end.
func TestNoByte(t *testing.T) {
	for _, b := range []int{-1, 256, -2, -93, -256, 257, 256 + 93, 1 << 31, 1<<32 + 93, -1 << 32, -1<<32 + 93, least, least + 93, greatest, greatest - 255} {
		wantProps(t, b, api.Props{}, api.ErrRange)
	}
}

// P12.6: there and back, of all that are allowed and of any that are not.
func TestPropsThereAndBack(t *testing.T) {
	r := rand.New(rand.NewSource(1261))
	asked := propsOf()
	for range 2000 {
		asked = append(asked, api.Props{LC: r.Intn(14) - 3, LP: r.Intn(14) - 3, PB: r.Intn(14) - 3})
	}
	for _, p := range asked {
		b, errno := state.PropsByte(p)
		if errno == api.OK {
			wantProps(t, b, p, api.OK)
		}
	}
	for b := range 256 {
		if p, errno := state.ByteProps(b); errno == api.OK {
			wantByte(t, p, b)
		}
	}
}
