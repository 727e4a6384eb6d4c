package lzma2

import (
	"pith/api"
	"pith/parse"
	"pith/state"
)

// legal: as far as a row of chunks hangs on the configuration.
func legal(c api.Config) bool {
	_, errno := state.PropsByte(c.Props)
	return errno == api.OK && c.Dict >= api.MinDict && c.Dict <= api.MaxDict && c.Mode >= api.ModeRaw && c.Mode <= api.ModeCheap
}

// scribe: writes data piece by piece, and remembers of the row so far what the next chunk's kind hangs on.
type scribe struct {
	data   []byte
	config api.Config
	*packer
	row   []byte
	last  int         // the kind of the chunk before; ChunkEnd, if there is none
	named bool        // a packed chunk came, so the properties stand in the row
	state state.State // behind the symbols of the chunk before, if it is packed
}

// newScribe: the configuration is legal, so an encoder can have its dictionary.
func newScribe(data []byte, c api.Config) *scribe {
	k, _ := newPacker(c.Dict)
	return &scribe{data: data, config: c, packer: k, last: api.ChunkEnd}
}

// written: a piece as a chunk, whole; no bytes, if it makes none.
type written struct {
	kind  int
	bytes []byte
	state state.State
}

// way: a function that writes the piece from from to to as a chunk that could come next.
type way func(from, to int) written

// parser: a function that makes symbols of a piece.
type parser func(data []byte, from, to, dict int, s state.State) ([]api.Symbol, state.State, api.Errno)

// ways: in which pieces are written in this mode, the one first that is kept where both are equally long.
func (s *scribe) ways() []way {
	switch s.config.Mode {
	case api.ModeGreedy:
		return []way{s.asItIs(), s.packedBy(parse.Greedy)}
	case api.ModeCheap:
		return []way{s.asItIs(), s.packedBy(parse.Cheap)}
	}
	return []way{s.asItIs()}
}

// asItIs: the encoder is told nothing of the piece. In a mode that packs, the try of the piece lays the bytes into its dictionary, kept or not; in the other one nothing is ever copied from there.
func (s *scribe) asItIs() way {
	return func(from, to int) written {
		kind := s.rawKind()
		bytes, _ := raw(kind, s.data[from:to])
		return written{kind: kind, bytes: bytes}
	}
}

// packedBy: what the encoder learns of a try that is not kept is never used, for behind a raw chunk it begins anew.
func (s *scribe) packedBy(symbolsOf parser) way {
	return func(from, to int) written {
		kind := s.packedKind()
		l, behind, _ := symbolsOf(s.data, from, to, s.config.Dict, s.ahead(kind))
		bytes, errno := s.packed(kind, s.config.Props, l)
		if errno != api.OK {
			return written{}
		}
		return written{kind: kind, bytes: bytes, state: behind}
	}
}

// ahead: the state at the front of a packed chunk of that kind.
func (s *scribe) ahead(kind int) state.State {
	if kind == api.ChunkSame {
		return s.state
	}
	return state.New()
}

func (s *scribe) rawKind() int {
	if s.last == api.ChunkEnd {
		return api.ChunkFirst
	}
	return api.ChunkRaw
}

func (s *scribe) packedKind() int {
	switch {
	case s.last == api.ChunkEnd:
		return api.ChunkAll
	case isPacked(s.last):
		return api.ChunkSame
	case s.named:
		return api.ChunkState
	}
	return api.ChunkProps
}

// shortest: the piece in the way that has the fewest bytes, of several such ones in the first.
func shortest(from, to int, ways ...way) written {
	var best written
	for _, write := range ways {
		w := write(from, to)
		if len(best.bytes) == 0 || len(w.bytes) > 0 && len(w.bytes) < len(best.bytes) {
			best = w
		}
	}
	return best
}

// keep: the chunk comes into the row.
func (s *scribe) keep(w written) {
	s.row = append(s.row, w.bytes...)
	s.last, s.state = w.kind, w.state
	s.named = s.named || isPacked(w.kind)
}
