package tree_test

import (
	"testing"

	"skein/tree"
)

func TestPlain(t *testing.T) {
	one, name, empty := tree.Number{Value: 1}, tree.Name{Level: 12}, tree.Empty{}
	for _, c := range []struct {
		node tree.Node
		want string
	}{
		{one, "1"},
		{name, "v12"},
		{empty, "[]"},
		{tree.Let{Level: 3, Value: one, Body: name}, "(let v3 = 1 in v12)"},
		{tree.Function{Level: 0, Body: empty}, `(\v0. [])`},
		{tree.If{Test: one, Then: name, Else: empty}, "(if 1 then v12 else [])"},
		{tree.Reckon{Sign: "<", Left: one, Right: name}, "(1 < v12)"},
		{tree.List{First: one, Rest: empty}, "(1 : [])"},
		{tree.Use{Function: name, Argument: one}, "(v12 1)"},
		{tree.Part{Word: "tail", List: empty}, "(tail [])"},
	} {
		if got := c.node.Plain(); got != c.want {
			t.Errorf("plain form %s, want %s", got, c.want)
		}
	}
}
