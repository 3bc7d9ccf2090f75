package need

import (
	"strconv"

	"skein/api"
	"skein/fault"
)

// value is what an expression becomes when it is needed.
type value interface {
	// text needs the parts of a list, so it counts steps, and may go wrong.
	text(steps *Steps) string
}

type number int64

// function takes what its name is to stand for.
type function func(argument *held) value

func (n number) text(*Steps) string { return strconv.FormatInt(int64(n), 10) }

func (f function) text(*Steps) string { return "<function>" }

// as is the value as what it is needed as.
func as[Kind value](it value) Kind {
	is, ok := it.(Kind)
	if !ok {
		panic(fault.Fault{Err: api.ErrType})
	}
	return is
}
