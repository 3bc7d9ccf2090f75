package need

import (
	"skein/api"
	"skein/fault"
)

// Steps are how many may be counted, and how many were.
type Steps struct{ Limit, Counted int }

func (s *Steps) count() {
	if s.Counted >= s.Limit {
		panic(fault.Fault{Err: api.ErrSteps})
	}
	s.Counted++
}
