package lzenc_test

import (
	"bytes"
	"encoding/hex"
	"fmt"
	"math/rand"
	"strings"
	"testing"

	"pith/api"
)

// wantRead: the reader finds these symbols in the bytes, and is done behind the last one.
func wantRead(t *testing.T, r *reader, b []byte, l []api.Symbol) {
	t.Helper()
	r.begin(b)
	for i, y := range l {
		if got := r.next(); got != plain(y) {
			t.Fatalf("the symbol %d is read as %+v, want %+v", i, got, plain(y))
		}
	}
	if !r.d.Done() || r.d.Used() != len(b) {
		t.Fatalf("behind the last symbol %d of %d bytes are read, Done is %v", r.d.Used(), len(b), r.d.Done())
	}
}

// P14.9: rows of symbols, with all properties and with small and great dictionaries, cut here and there, with raw bytes between, are read back.
func TestThereAndBack(t *testing.T) {
	for k, p := range append(allProps(), boundProps...) {
		r := rand.New(rand.NewSource(int64(1491 + k)))
		dict := []int{1, 2, 40, 300, 4096, 1 << 18, api.MaxTold}[k%7]
		a, back := newPair(t, p, dict), newReader(t, p, dict)
		for range 12 {
			if r.Intn(2) == 0 {
				b := count(r.Intn(1 << r.Intn(12)))
				a.raw(b...)
				back.came = append(back.came, b...)
			}
			l := chance(t, a, r, r.Intn(120))
			wantRead(t, back, a.cut(t), l)
		}
		a.same(t)
	}
}

// P14.9: the same where what was learnt is forgotten between, and the dictionary begun anew.
func TestThereAndBackBegunAnew(t *testing.T) {
	r := rand.New(rand.NewSource(1492))
	all := allProps()
	a, back := newPair(t, usual, 500), newReader(t, usual, 500)
	for range 150 {
		switch r.Intn(4) {
		case 0:
			p := all[r.Intn(len(all))]
			a.reset(t, p)
			back.p = p
			back.forget()
		case 1:
			a.clear()
			back.came = nil
			back.forget()
		}
		l := chance(t, a, r, r.Intn(60))
		wantRead(t, back, a.cut(t), l)
	}
}

// P14.9: no symbols, one symbol of each kind, and many literals that have got cheap.
func TestFewAndManyBack(t *testing.T) {
	a, back := newPair(t, usual, 4096), newReader(t, usual, 4096)
	wantRead(t, back, a.cut(t), nil)
	for _, y := range []api.Symbol{lit(200), short(), rep(9, 0), match(30, 7), rep(273, 1), lit(0)} {
		a.put(t, y)
		wantRead(t, back, a.cut(t), []api.Symbol{y})
	}
	l := make([]api.Symbol, 5000)
	for i := range l {
		l[i] = lit(0)
	}
	a.put(t, l...)
	b := a.cut(t)
	wantRead(t, back, b, l)
	if len(b) > 400 {
		t.Errorf("%d bytes for 5000 zeros", len(b))
	}
}

// P14.9: far distances, in a dictionary of some MiB.
func TestFarBack(t *testing.T) {
	r := rand.New(rand.NewSource(1493))
	const came = 5 << 20
	a, back := newPair(t, usual, came-7), newReader(t, usual, came-7)
	b := make([]byte, came)
	r.Read(b)
	a.raw(b...)
	back.came = append(back.came, b...)
	var l []api.Symbol
	for _, d := range []int{came - 7, came - 8, 1 << 22, 1<<22 + 1, 3 << 20, 1<<20 + 12345, 70000, 129} {
		l = append(l, match(2+r.Intn(200), d), lit(byte(d)), short(), rep(5, 1))
	}
	a.put(t, l...)
	wantRead(t, back, a.cut(t), l)
}

// song: data that the bytes below were made of.
func song() []byte {
	var text strings.Builder
	for n := 10; n >= 8; n-- {
		fmt.Fprintf(&text, "%d green bottles hanging on the wall, %d green bottles hanging on the wall;\nand if one green bottle should accidentally fall,\nthere'll be %d green bottles hanging on the wall.\n", n, n, n-1)
	}
	noise := make([]byte, 150)
	x := 7
	for i := range noise {
		x = (x*1103515245 + 12345) % (1 << 31)
		noise[i] = byte(x >> 16)
		if i%5 != 0 {
			noise[i] &= 3
		}
	}
	return bytes.Join([][]byte{[]byte(text.String()), noise, make([]byte, 300), []byte(text.String()[17:400]), noise[:90]}, nil)
}

// elsewhere: the song as the program xz packs it (the packed bytes of its one chunk, with a dictionary of 4096).
var elsewhere = []struct {
	p      api.Props
	packed string
}{
	{api.Props{LC: 3, PB: 2}, `
00188c00265a263b5c8efccdc2af9ab48ec3896897109a785c9d1cec8185d0ee5fbe59b029fd73e995d6bee07c332ed738b6658bffd018bda28e4520
1c52a84a0b46045512866b6ac6c2cb9ccf8b16e003c5bd5f557816deabc3991f875952cae64c45343453e631e5f56f4b712cae70adf05e7dbca406b9
b2dc4ea9b8c5576a952d2cf8dd3aa9555b5d5dbaf0f6afb1358cc8fe0e8f1ed9cea88f5669ddaf4c1032536553d683981e9029bc4d6b3c7cf1f0ee38
fbe7f7a245d1650eee18c5123f2f8eb52c94342ce36c3f6deb545f2daf12475517a78b73f86f3c2ab341c94207b71dea25f0532ead9df2b58c005daf
47ede24b207ba000`},
	{api.Props{LP: 2}, `
00188c6068aca98c4d78b6a992dcf0d5fcac3204a62e8a032e3538d6bbf75be863f2acee38b894958ad0f65acdf6ff1a9cdd221e6ddded07d447b011
ead3939565c58870ed67c2ea29b20d6f547dd229853e332912918df8c3e87c33b003ef7002d8596d5095f152d20bea1e8b54ecb5f1faf8e7248a5cf6
f5614d1d07027494d4462afe46fb5045db9dc5d310f049284b3f9fe7c98f1e524984b042e4d3e985866db7879a511df28709171eab2e2c9c0946df9b
00fec9ee68f52140e58fd22bfc69ff3673bfbcb40c8bb5d814dd329fef89ea2c778f830a778520c6863fc474f8d595d5060a90bcad7b08fd679ffe4c
3e70ff4facb3a6b000`},
	{api.Props{LC: 1, LP: 3, PB: 4}, `
00188c00067391970dc212e10b9ef981f980859ba3be294a866d9f637960fe3e68cdbc7491e5b13e6b3615cf1d0437339ad51f1db634d5280e046a4c
a14fc530df5c10bd18a3647ee2c2e21305335747834bb8b1bce8ed4209906e23f11b7fd1f78875937d6b7f3104c6d8479d80adadb87308e3613984db
04d36c92e4a19921bdc32de928275f4fc10ac4d6938085e23a181af99348185003fe0d7b5c6e7623d82540628bedcccbef8b2100a865ca57127e0a81
b865c27d70078b9514397f05bfa9fd83b115f2973e056cac825dbd9d5ccbc5fc8708c56f04555713144a30ebccb0ecb62be6974808688e07d1425ebf
11289a85a562456390bc6361e4c000`},
}

// P14.2, P14.9: bytes that another program made are read, and their symbols become the same bytes: so the chapter's bits are those of the format.
func TestBytesMadeElsewhere(t *testing.T) {
	for _, c := range elsewhere {
		packed, err := hex.DecodeString(strings.ReplaceAll(c.packed, "\n", ""))
		if err != nil {
			t.Fatal(err)
		}
		a, back := newPair(t, c.p, 4096), newReader(t, c.p, 4096)
		back.begin(packed)
		kinds := map[int]int{}
		for len(back.came) < len(song()) {
			y := back.next()
			kinds[y.Kind]++
			a.put(t, y)
		}
		if !back.d.Done() || !bytes.Equal(back.came, song()) || len(kinds) != 4 {
			t.Fatalf("%+v: %d bytes, %v", c.p, len(back.came), kinds)
		}
		if b := a.cut(t); !bytes.Equal(b, packed) {
			t.Errorf("%+v: the bytes are % X", c.p, b)
		}
	}
}
