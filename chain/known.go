package chain

import (
	"pith/api"
	"pith/chunk"
)

// told: what the filters of a chain tell by their properties.
type told struct {
	dist int // 0: no Delta filter
	dict int
}

// kind: a filter that is known, and what reads its properties, which are one byte, and adds what they tell.
type kind struct {
	id   uint64
	read func(props byte, t *told) api.Errno
}

// known: the filters that are known, as the longest chain that is read here has them; the other one is its end.
func known() []kind {
	return []kind{
		{id: api.FilterDelta, read: readDist},
		{id: api.FilterLZMA2, read: readDict},
	}
}

// take: what the filter tells, if it is of this kind.
func (k kind) take(f api.Filter, t *told) api.Errno {
	if f.ID != k.id || len(f.Props) != 1 {
		return api.ErrUnsupported
	}
	return k.read(f.Props[0], t)
}

func readDist(props byte, t *told) api.Errno {
	t.dist = int(props) + 1
	return api.OK
}

func readDict(props byte, t *told) api.Errno {
	dict, errno := chunk.ByteDict(int(props))
	t.dict = dict
	return errno
}

// filter: of a number, with one byte of properties.
func filter(id uint64, props int) api.Filter {
	return api.Filter{ID: id, Props: []byte{byte(props)}}
}
