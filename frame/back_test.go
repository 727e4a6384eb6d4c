package frame_test

import (
	"bytes"
	"math/rand"
	"testing"

	"pith/api"
	"pith/frame"
)

// laidHeader: the header of a kind that is read.
func laidHeader(t *testing.T, kind int) []byte {
	t.Helper()
	b, errno := frame.Header(kind)
	if errno != api.OK {
		t.Fatalf("Header(%d): error %d", kind, errno)
	}
	return b
}

// laidFooter: a footer of a kind that is read, and of a size that may be.
func laidFooter(t *testing.T, kind, index int) []byte {
	t.Helper()
	b, errno := frame.Footer(kind, index)
	if errno != api.OK {
		t.Fatalf("Footer(%d, %d): error %d", kind, index, errno)
	}
	return b
}

// behinds: nothing, a zero, another header and footer, and bytes by chance.
func behinds() [][]byte {
	return [][]byte{nil, {0}, {0xFF}, headerOf(0, 4), footerOf(1, 0, 4), headerOf(0, 10), noise(24, 100), make([]byte, 5000)}
}

// P24.4: what is laid is read again, with whatever behind it.
func TestLaidIsRead(t *testing.T) {
	for _, kind := range kinds {
		for _, behind := range behinds() {
			wantReadHeader(t, append(laidHeader(t, kind), behind...), kind, api.OK)
			for _, index := range indexes() {
				wantReadFooter(t, append(laidFooter(t, kind, index), behind...), kind, index, api.OK)
			}
		}
	}
}

// P24.4: likewise with sizes by chance.
func TestLaidIsReadByChance(t *testing.T) {
	r := rand.New(rand.NewSource(242))
	for range 5000 {
		kind, index := kinds[r.Intn(4)], 4*(1+r.Intn(1<<32>>r.Intn(32)))
		wantReadFooter(t, laidFooter(t, kind, index), kind, index, api.OK)
	}
}

// wantLaidAgain: what was read is laid just so; whether it was read.
func wantLaidAgain(t *testing.T, b []byte) (bool, bool) {
	t.Helper()
	kind, one := frame.ReadHeader(b)
	if one == api.OK && !bytes.Equal(laidHeader(t, kind), b[:12]) {
		t.Errorf("ReadHeader(%s) is %d, whose header is another", shown(b), kind)
	}
	kind, index, other := frame.ReadFooter(b)
	if other == api.OK && !bytes.Equal(laidFooter(t, kind, index), b[:12]) {
		t.Errorf("ReadFooter(%s) is %d, %d, whose footer is another", shown(b), kind, index)
	}
	return one == api.OK, other == api.OK
}

// P24.4: what is read begins with what is laid of the answer: all flags, and sizes at the edges and by chance.
func TestReadIsLaid(t *testing.T) {
	r := rand.New(rand.NewSource(243))
	headers, footers := 0, 0
	for ninth := range 256 {
		for tenth := range 256 {
			for _, b := range [][]byte{headerOf(byte(ninth), byte(tenth)), footerOf(r.Uint32(), byte(ninth), byte(tenth))} {
				one, other := wantLaidAgain(t, append(b, byte(ninth)))
				if one {
					headers++
				}
				if other {
					footers++
				}
			}
		}
	}
	if headers != 4 || footers != 4 {
		t.Errorf("%d headers and %d footers were read, want four each", headers, footers)
	}
	for range 5000 {
		if _, read := wantLaidAgain(t, append(footerOf(r.Uint32()>>r.Intn(32), 0, byte(kinds[r.Intn(4)])), noise(1, 3)...)); !read {
			t.Errorf("a right footer is not read")
		}
	}
}
