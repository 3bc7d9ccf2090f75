package need

import (
	"strconv"

	"skein/api"
	"skein/fault"
)

// value is what an expression becomes when it is needed.
type value interface {
	text() string
}

type number int64

// function takes what its name is to stand for.
type function func(argument *held) value

func (n number) text() string { return strconv.FormatInt(int64(n), 10) }

func (f function) text() string { return "<function>" }

// as is the value as what it is needed as.
func as[Kind value](it value) Kind {
	is, ok := it.(Kind)
	if !ok {
		panic(fault.Fault{Err: api.ErrType})
	}
	return is
}
