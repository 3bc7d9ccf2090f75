// Package skein: a small lazy language: see DOC.md.
package skein

import (
	"skein/api"
	"skein/fault"
	"skein/need"
	"skein/parse"
	"skein/tree"
)

// Check tells whether a text is an expression, and where it is not (P3).
func Check(text string) (api.Errno, int) {
	_, wrong := read(text)
	return wrong.Err, wrong.Place
}

// Show tells an expression in its plain form (P4).
func Show(text string) (string, api.Errno) {
	whole, wrong := read(text)
	if wrong.Err != api.OK {
		return "", wrong.Err
	}
	return whole.Plain(), api.OK
}

// Eval tells what an expression is, reckoned in at most limit steps (P5).
func Eval(text string, limit int) api.Answer {
	whole, wrong := read(text)
	if wrong.Err != api.OK {
		return api.Answer{Err: wrong.Err}
	}
	if limit < 0 || limit > api.MaxSteps {
		return api.Answer{Err: api.ErrLimit}
	}
	return reckon(whole, limit)
}

// read is where a panic of reading ends.
func read(text string) (whole tree.Node, wrong fault.Fault) {
	defer func() { wrong = fault.Caught(recover()) }()
	return parse.Whole(text), fault.Fault{}
}

// reckon is where a panic of reckoning ends: the steps are told whether it went wrong or not.
func reckon(whole tree.Node, limit int) (answer api.Answer) {
	steps := need.Steps{Limit: limit}
	defer func() {
		wrong := fault.Caught(recover())
		answer.Steps, answer.Err = steps.Counted, wrong.Err
	}()
	return api.Answer{Text: need.Text(whole, &steps)}
}
