package frame

import (
	"pith/api"
	"pith/check"
	"pith/crc"
	"pith/wire"
)

// How many bytes a header or a footer has, and its parts.
const (
	size      = 12
	markSize  = 6
	tailSize  = 2
	flagsSize = 2
	toldSize  = 4
	sumSize   = 4
)

// An index is told in words, one less than there are.
const (
	word      = 4
	mostIndex = word << (8 * toldSize)
)

// headMark: a header begins so.
var headMark = [markSize]byte{0xFD, '7', 'z', 'X', 'Z', 0}

// footMark: a footer ends so.
var footMark = [tailSize]byte{'Y', 'Z'}

// flagsOf: the flags of a kind that is read here.
func flagsOf(kind int) ([flagsSize]byte, bool) {
	if check.Read(kind) != api.OK {
		return [flagsSize]byte{}, false
	}
	return [flagsSize]byte{0, byte(kind)}, true
}

// kindOf: the kind that the flags tell, if it is one that is read here.
func kindOf(flags [flagsSize]byte) (int, bool) {
	kind := int(flags[1])
	right, ok := flagsOf(kind)
	if !ok || flags != right {
		return 0, false
	}
	return kind, true
}

// toldOf: how the size of an index is told, if one can have that size.
func toldOf(index int) ([toldSize]byte, bool) {
	if index < word || index > mostIndex || index%word != 0 {
		return [toldSize]byte{}, false
	}
	return low(uint32(index/word - 1)), true
}

// indexOf: the size of an index that is told so.
func indexOf(told [toldSize]byte) int {
	v, _ := wire.NewReader(told[:]).Low(toldSize)
	return word * (int(v) + 1)
}

// sumOf: the CRC-32 of the pieces, as bytes.
func sumOf(b ...[]byte) [sumSize]byte { return low(crc.Sum32(b...)) }

// low: a number's four bytes, the lowest first.
func low(v uint32) [4]byte {
	w := wire.NewWriter()
	w.Low(uint64(v), 4)
	return [4]byte(w.Bytes())
}
