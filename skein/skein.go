// Package skein: a small lazy language: see DOC.md.
package skein

import (
	"skein/api"
	"skein/fault"
	"skein/parse"
	"skein/tree"
)

// Check tells whether a text is an expression, and where it is not (P3).
func Check(text string) (api.Errno, int) {
	_, wrong := read(text)
	return wrong.Err, wrong.Place
}

// Show tells an expression in its plain form (P4).
func Show(text string) (string, api.Errno) {
	whole, wrong := read(text)
	if wrong.Err != api.OK {
		return "", wrong.Err
	}
	return whole.Plain(), api.OK
}

// Eval tells what an expression is (P5).
func Eval(text string, limit int) api.Answer { return api.Answer{} }

// read is where a panic of reading ends.
func read(text string) (whole tree.Node, wrong fault.Fault) {
	defer func() { wrong = fault.Caught(recover()) }()
	return parse.Whole(text), fault.Fault{}
}
