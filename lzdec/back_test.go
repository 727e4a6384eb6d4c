package lzdec_test

import (
	"bytes"
	"encoding/hex"
	"fmt"
	"math/rand"
	"slices"
	"strings"
	"testing"

	"pith/api"
	"pith/lzdec"
	"pith/lzenc"
)

// couple: an encoder and a decoder that were made alike and are told the same; and one more encoder, told likewise, that cuts again what was taken.
type couple struct {
	e, again *lzenc.Encoder
	d        *lzdec.Decoder
	w        words
}

func newCouple(t *testing.T, p api.Props, dict int) *couple {
	t.Helper()
	e, errno := lzenc.New(p, dict)
	if errno != api.OK {
		t.Fatalf("error %d", errno)
	}
	return &couple{e, e.Fork(), made(t, p, dict), newWords(p, dict)}
}

func (a *couple) raw(b ...byte) {
	a.e.Raw(b...)
	a.again.Raw(b...)
	a.d.Raw(b...)
	a.w.came = append(a.w.came, b...)
}

func (a *couple) reset(t *testing.T, p api.Props) {
	t.Helper()
	if a.e.Reset(p) != api.OK || a.again.Reset(p) != api.OK || a.d.Reset(p) != api.OK {
		t.Fatalf("Reset(%+v) is refused", p)
	}
	a.w.p = p
	a.w.forget()
}

func (a *couple) clear() {
	a.e.Clear()
	a.again.Clear()
	a.d.Clear()
	a.w.came = nil
	a.w.forget()
}

// pass: the symbols go through: put, cut, taken, and cut again.
func (a *couple) pass(t *testing.T, l ...api.Symbol) []byte {
	t.Helper()
	came := len(a.w.came)
	for _, y := range l {
		if errno := a.e.Put(y); errno != api.OK || !a.w.apply(y) {
			t.Fatalf("%+v: error %d", y, errno)
		}
	}
	packed := a.e.Cut()
	if len(l) == 0 {
		return packed
	}
	got, b, errno := a.d.Take(packed, len(a.w.came)-came)
	if errno != api.OK || !slices.Equal(got, allPlain(l)) || !bytes.Equal(b, a.w.came[came:]) {
		t.Fatalf("%+v is taken as %+v, error %d", l, got, errno)
	}
	wantCutAgain(t, a.again, got, packed)
	return packed
}

// wantCutAgain: an encoder cuts these bytes of these symbols.
func wantCutAgain(t *testing.T, e *lzenc.Encoder, l []api.Symbol, packed []byte) {
	t.Helper()
	for _, y := range l {
		if errno := e.Put(y); errno != api.OK {
			t.Fatalf("%+v was taken, but is put with the error %d", y, errno)
		}
	}
	if b := e.Cut(); !bytes.Equal(b, packed) {
		t.Fatalf("% X was taken, % X is cut again", packed, b)
	}
}

// P15.5, P15.6: rows of symbols, with all properties and with small and great dictionaries, cut here and there, with raw bytes between.
func TestThereAndBack(t *testing.T) {
	for k, p := range append(allProps(), boundProps...) {
		r := rand.New(rand.NewSource(int64(1571 + k)))
		a := newCouple(t, p, []int{1, 2, 40, 300, 4096, 1 << 18, api.MaxTold}[k%7])
		for range 20 {
			if r.Intn(2) == 0 {
				a.raw(count(r.Intn(1 << r.Intn(12)))...)
			}
			a.pass(t, a.w.chance(r, r.Intn(120))...)
		}
	}
}

// P15.5, P15.6: the same where what was learnt is forgotten between, and the dictionary begun anew.
func TestThereAndBackBegunAnew(t *testing.T) {
	r := rand.New(rand.NewSource(1572))
	all := allProps()
	a := newCouple(t, usual, 500)
	for range 400 {
		switch r.Intn(5) {
		case 0:
			a.reset(t, all[r.Intn(len(all))])
		case 1:
			a.clear()
		case 2:
			a.raw(count(r.Intn(700))...)
		}
		a.pass(t, a.w.chance(r, r.Intn(60))...)
	}
}

// P15.5: what a symbol's kind does not use is zero in what is taken, whatever it was in what was put.
func TestWhatAKindDoesNotUse(t *testing.T) {
	for _, v := range []int{1, -1, 2, 274, greatest, least} {
		a := newCouple(t, usual, 100)
		a.pass(t,
			api.Symbol{Kind: api.SymLit, Byte: 5, Len: v, Dist: v},
			api.Symbol{Kind: api.SymShort, Byte: byte(v), Len: v, Dist: v},
			api.Symbol{Kind: api.SymMatch, Byte: byte(v), Len: 2, Dist: 2},
			api.Symbol{Kind: api.SymRep, Byte: byte(v), Len: 9, Dist: 3},
			api.Symbol{Kind: api.SymLit, Byte: 5, Len: v, Dist: v})
	}
}

// P15.5: one symbol at a time, of each kind; and many literals that have got cheap.
func TestFewAndManyBack(t *testing.T) {
	a := newCouple(t, usual, 4096)
	for _, y := range []api.Symbol{lit(200), short(), rep(9, 0), match(30, 7), rep(273, 1), lit(0)} {
		a.pass(t, y)
	}
	if b := a.pass(t, slices.Repeat([]api.Symbol{lit(0)}, 5000)...); len(b) > 400 {
		t.Errorf("%d bytes for 5000 zeros", len(b))
	}
}

// P15.5, P15.6: far distances, in a dictionary of some MiB that is not as great as what came.
func TestFarBack(t *testing.T) {
	r := rand.New(rand.NewSource(1573))
	const came = 5 << 20
	a := newCouple(t, usual, came-7)
	b := make([]byte, came)
	r.Read(b)
	a.raw(b...)
	for _, d := range []int{came - 7, came - 8, 1 << 22, 1<<22 + 1, 3 << 20, 1<<20 + 12345, 70000, 129} {
		a.pass(t, match(2+r.Intn(200), d), lit(byte(d)), short(), rep(5, 1))
	}
}

// tale: data that the bytes below were made of.
func tale() []byte {
	var text strings.Builder
	for k, beast := range []string{"fly", "spider", "bird", "cat", "dog", "cow", "horse"} {
		fmt.Fprintf(&text, "There was an old lady who swallowed a %s;\nI don't know why she swallowed that %s: %d in all.\n", beast, beast, k*k*7+1)
	}
	steps := make([]byte, 260)
	for i := range steps {
		steps[i] = byte(i * i / 3 % 11 << (i % 3))
	}
	return slices.Concat([]byte(text.String()), steps, bytes.Repeat([]byte{7}, 300), steps[3:100], []byte(text.String()[31:300]))
}

// elsewhere: the tale as the program xz packs it (the packed bytes of its one chunk, with a dictionary of 4096).
var elsewhere = []struct {
	p      api.Props
	packed string
}{
	{api.Props{LC: 3, PB: 2}, `
002a1a08a7558e2231d2cbf730fa524d888161e4be9dc2f00ef8dcc9de2463c91fc7f771e4ed40680ed2d21c00916f02cb53c938a1c58275ab3c3936
4461c078e04fda3ceb508aa1d96905bc563d79892f95c85d2ac4933dfe1889637095188b26113b53f779bacb463d10b838a595655bba80e56811d9d6
a08cb8706d1a3c81177d1146608defbf8c71f599d8d37199d9e221770c6b2adcb4f25513c4797dfcbb95fea5fbbe7d0643b127e66f7f309acef0169a
92d9607096630f1915871d2c2d8a810d747d0fedcd3dc215f61e42850009d34b00`},
	{api.Props{LP: 4}, `
002a1ad9da925689847970a640525bcd886f201487564721ab71a24ed4e4e51e2f1444c2379ad49acc892a9b06e2c020477dc6a4e4051706b2539142
3bb7a163cc95c8e32a56489205599ba5f368fb87a0f8bbed8a7ae89ab158ff6e17ebbd740516a267d04601cdb1fbfaa913ba9edaef2e00e23f609f14
da70f957ccbf75f7a7c7972517e98d31f8adc6975ffab08311e0518daaf91b539e5915b4d0e22192f9b8a4759d5bc65e87610602d9ec33453ea1bf1e
f1e2da2df4214fe20f1ee70599ee77ed16c1253f9834e5bb22ac66353c61c93a855d9e22be4d773c8e7884358e00`},
	{api.Props{LC: 2, LP: 1, PB: 4}, `
002a1a08a75569e56f7d072f29513f71ae0240e76366eb36a1c39cdff0094ceefb267963f0f394ebaa85425cf5510fc185f462ee80eef63caf3e7764
a056338b16bc0d47e9206f155e246de854fa245834dc27e3380d827778be208628c09922b8b377aec832d4e6a987f9ca49ad3d22785f38f3dacbaaca
476c770e53875ee95242a0e85a079c8d030e1f32cae35e351343ca756eef0dd0a44c132f7bf35f0802c23a88fc2eab1dc281ac5bd4504347542f695b
9ffc34b9e84b64f3495e0266d8a03f43c183cb5cf921b6a450a0326bddc1535cde978fcd6133`},
}

// P15.2, P15.6: bytes that another program made are taken, and cut again byte for byte.
func TestBytesMadeElsewhere(t *testing.T) {
	for _, c := range elsewhere {
		packed, err := hex.DecodeString(strings.ReplaceAll(c.packed, "\n", ""))
		if err != nil {
			t.Fatal(err)
		}
		a := newCouple(t, c.p, 4096)
		l, b, errno := a.d.Take(packed, len(tale()))
		if errno != api.OK || !bytes.Equal(b, tale()) {
			t.Fatalf("%+v: %q, error %d", c.p, b, errno)
		}
		kinds := map[int]int{}
		for _, y := range l {
			kinds[y.Kind]++
		}
		if len(kinds) != 4 {
			t.Errorf("%+v: the kinds are %v", c.p, kinds)
		}
		wantCutAgain(t, a.again, l, packed)
	}
}
