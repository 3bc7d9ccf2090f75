package need

import (
	"slices"

	"skein/api"
	"skein/fault"
)

type state int

const (
	waiting state = iota // not needed yet
	needed               // just being needed
	known                // has become a value
)

// held is what a name stands for, or the first or the rest of a list: an
// expression with what its own names stand for, until it is needed; then its
// value, wherever it is asked for.
type held struct {
	state state
	code  code
	names scope
	value value
}

func (h *held) need() value {
	switch h.state {
	case needed:
		panic(fault.Fault{Err: api.ErrLoop})
	case waiting:
		h.state = needed
		h.value = h.code(h.names)
		h.state = known
	}
	return h.value
}

// scope is what the names stand for, by their levels.
type scope []*held

// with is a scope of its own: the functions of one scope each add a name at the same level.
func (s scope) with(inner *held) scope { return append(slices.Clip(s), inner) }
