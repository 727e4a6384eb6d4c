package symbol

import (
	"pith/api"
	"pith/state"
	"pith/window"
)

// lay: the bytes of a formed symbol, behind a right state, come into the window. A copy from a distance that is not in it is refused by the window itself, ahead of any change.
func lay(w *window.Window, s state.State, y api.Symbol) ([]byte, api.Errno) {
	switch y.Kind {
	case api.SymMatch:
		return w.Copy(y.Dist, length(y))
	case api.SymRep:
		return w.Copy(s.Reps[y.Dist], length(y))
	case api.SymShort:
		return w.Copy(s.Reps[0], length(y))
	}
	w.Put(y.Byte)
	return []byte{y.Byte}, api.OK
}

// length: of a formed symbol. Len says nothing of a literal and a short rep, which may have any there.
func length(y api.Symbol) int {
	switch y.Kind {
	case api.SymMatch, api.SymRep:
		return y.Len
	}
	return 1
}
