package fault_test

import (
	"testing"

	"skein/api"
	"skein/fault"
)

func caught(work func()) (wrong fault.Fault) {
	defer func() { wrong = fault.Caught(recover()) }()
	work()
	return fault.Fault{}
}

func TestCaughtTellsTheFault(t *testing.T) {
	want := fault.Fault{Err: api.ErrName, Place: 7}
	if got := caught(func() { panic(want) }); got != want {
		t.Errorf("caught %v, want %v", got, want)
	}
}

func TestCaughtWithoutPanicIsOK(t *testing.T) {
	if got := caught(func() {}); got != (fault.Fault{}) {
		t.Errorf("caught %v, want none", got)
	}
}

func TestCaughtLetsAMistakeGoOn(t *testing.T) {
	defer func() {
		if got := recover(); got != "a mistake" {
			t.Errorf("what went on is %v, want the mistake", got)
		}
	}()
	caught(func() { panic("a mistake") })
}
