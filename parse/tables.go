package parse

import (
	"skein/signs"
	"skein/tree"
)

// How near a sign binds: the later here, the nearer.
const (
	nearList = iota
	nearOrder
	nearSum
	nearProduct
	nearUse
)

// infix is what a sign between two sides does.
type infix struct {
	kind  signs.Kind
	near  int
	right int  // how near the signs of its right side bind at least
	again bool // whether one that binds as near may follow
	join  func(left, right tree.Node) tree.Node
}

// The tables are made by functions, as they hold functions.
func infixes() []infix {
	return []infix{
		{kind: ":", near: nearList, right: nearList, join: list},
		{kind: "=", near: nearOrder, right: nearSum, join: reckon("=")},
		{kind: "<", near: nearOrder, right: nearSum, join: reckon("<")},
		{kind: "+", near: nearSum, right: nearProduct, again: true, join: reckon("+")},
		{kind: "-", near: nearSum, right: nearProduct, again: true, join: reckon("-")},
		{kind: "*", near: nearProduct, right: nearUse, again: true, join: reckon("*")},
	}
}

func list(first, rest tree.Node) tree.Node {
	return tree.List{First: first, Rest: rest}
}

func reckon(sign string) func(left, right tree.Node) tree.Node {
	return func(left, right tree.Node) tree.Node {
		return tree.Reckon{Sign: sign, Left: left, Right: right}
	}
}

// opener is what a sign at the beginning of an expression or an atom does.
type opener struct {
	kind signs.Kind
	read func(p *parser) tree.Node
}

func expressions() []opener {
	return []opener{
		{"let", (*parser).let},
		{`\`, (*parser).function},
		{"if", (*parser).choice},
	}
}

func atoms() []opener {
	return []opener{
		{signs.Number, (*parser).number},
		{signs.Name, (*parser).name},
		{"[]", (*parser).empty},
		{"(", (*parser).brackets},
		{"head", (*parser).part},
		{"tail", (*parser).part},
		{"null", (*parser).part},
	}
}
