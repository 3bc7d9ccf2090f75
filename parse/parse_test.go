package parse_test

import (
	"strings"
	"testing"

	"skein/api"
	"skein/fault"
	"skein/parse"
	"skein/tree"
)

func whole(text string) (node tree.Node, wrong fault.Fault) {
	defer func() { wrong = fault.Caught(recover()) }()
	return parse.Whole(text), fault.Fault{}
}

func TestWholeIsTheTree(t *testing.T) {
	one, two, three := tree.Number{Value: 1}, tree.Number{Value: 2}, tree.Number{Value: 3}
	reckon := func(left tree.Node, sign string, right tree.Node) tree.Node {
		return tree.Reckon{Sign: sign, Left: left, Right: right}
	}
	for _, c := range []struct {
		text string
		want tree.Node
	}{
		{"0000000001", nil},
		{"000000001", one},
		{"999999999", tree.Number{Value: 999999999}},
		{"1 - 2 + 3", reckon(reckon(one, "-", two), "+", three)},
		{"1 * 2 * 3", reckon(reckon(one, "*", two), "*", three)},
		{"1 + 2 * 3", reckon(one, "+", reckon(two, "*", three))},
		{"1 < 2 - 3", reckon(one, "<", reckon(two, "-", three))},
		{"1 : 2 : 3", tree.List{First: one, Rest: tree.List{First: two, Rest: three}}},
		{"1 = 2 : 3", tree.List{First: reckon(one, "=", two), Rest: three}},
		{"1 2 3", tree.Use{Function: tree.Use{Function: one, Argument: two}, Argument: three}},
		{"1 * 2 3", reckon(one, "*", tree.Use{Function: two, Argument: three})},
		{"head 1 2", tree.Use{Function: tree.Part{Word: "head", List: one}, Argument: two}},
		{`\a. \b. a`, tree.Function{Level: 0, Body: tree.Function{Level: 1, Body: tree.Name{Level: 0}}}},
		{`\a. \a. a`, tree.Function{Level: 0, Body: tree.Function{Level: 1, Body: tree.Name{Level: 1}}}},
		{"let a = a in a", tree.Let{Level: 0, Value: tree.Name{Level: 0}, Body: tree.Name{Level: 0}}},
		{"if 1 then 2 else 3", tree.If{Test: one, Then: two, Else: three}},
		{"null []", tree.Part{Word: "null", List: tree.Empty{}}},
	} {
		if got, _ := whole(c.text); got != c.want {
			t.Errorf("tree of %q: %v, want %v", c.text, got, c.want)
		}
	}
}

func TestWholePanicsWithAFault(t *testing.T) {
	for _, c := range []struct {
		text string
		want fault.Fault
	}{
		{strings.Repeat(" ", api.MaxText+1), fault.Fault{Err: api.ErrLong}},
		{"1 1 )", fault.Fault{Err: api.ErrSyntax, Place: 4}},
		{"1 + y", fault.Fault{Err: api.ErrName, Place: 4}},
	} {
		if node, got := whole(c.text); node != nil || got != c.want {
			t.Errorf("%q: %v, %v, want no tree, %v", c.text, node, got, c.want)
		}
	}
}
