package need

import (
	"strings"

	"skein/api"
	"skein/fault"
)

// list has a first and a rest, each held until it is needed, or neither: then it is empty.
type list struct{ first, rest *held }

func (l list) empty() bool { return l.first == nil }

// full is the list itself, where a part of it is asked for: an empty one has none.
func (l list) full() list {
	if l.empty() {
		panic(fault.Fault{Err: api.ErrEmpty})
	}
	return l
}

func (l list) text(steps *Steps) string {
	var told []string
	for !l.empty() {
		// Counted ahead of the first, so that a list without an end ends at the limit.
		steps.count()
		told = append(told, l.first.need().text(steps))
		l = as[list](l.rest.need())
	}
	return "[" + strings.Join(told, ", ") + "]"
}
