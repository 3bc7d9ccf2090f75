// Package fault: what goes wrong inside, on its way out to the call.
package fault

import "skein/api"

// Fault is the value of a panic inside. It has a type of its own so that a call
// can tell it from a mistake of the program. Place is where the text is wrong.
type Fault struct {
	Err   api.Errno
	Place int
}

// Caught takes what recover answered; without a panic the fault is api.OK.
// Another panic than a Fault goes on: to answer an error in its stead would hide a mistake.
func Caught(thrown any) Fault {
	if thrown == nil {
		return Fault{}
	}
	wrong, ok := thrown.(Fault)
	if !ok {
		panic(thrown)
	}
	return wrong
}
