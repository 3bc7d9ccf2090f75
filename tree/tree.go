// Package tree: an expression as it was read, its names as levels.
//
// The level of a \ or a let is how many others of these it lies within; a name
// has the level of the one that gives it. So no two trees differ only in how
// their names are called, or in brackets that may be left out.
package tree

import "strconv"

// Node is an expression.
type Node interface {
	// Plain is the expression in its plain form.
	Plain() string
}

type Number struct{ Value int64 }

type Name struct{ Level int }

// Empty is the empty list.
type Empty struct{}

type Let struct {
	Level       int
	Value, Body Node
}

type Function struct {
	Level int
	Body  Node
}

type If struct{ Test, Then, Else Node }

// Reckon is a sign that needs a number on either side.
type Reckon struct {
	Sign        string
	Left, Right Node
}

// List is a list with a first and a rest. It is no Reckon, as it needs neither side.
type List struct{ First, Rest Node }

// Use is a function used on an argument.
type Use struct{ Function, Argument Node }

// Part is what one of the words head, tail and null asks of a list.
type Part struct {
	Word string
	List Node
}

func (n Number) Plain() string { return strconv.FormatInt(n.Value, 10) }

func (n Name) Plain() string { return called(n.Level) }

func (n Empty) Plain() string { return "[]" }

func (n Let) Plain() string {
	return "(let " + called(n.Level) + " = " + n.Value.Plain() + " in " + n.Body.Plain() + ")"
}

func (n Function) Plain() string {
	return `(\` + called(n.Level) + ". " + n.Body.Plain() + ")"
}

func (n If) Plain() string {
	return "(if " + n.Test.Plain() + " then " + n.Then.Plain() + " else " + n.Else.Plain() + ")"
}

func (n Reckon) Plain() string {
	return "(" + n.Left.Plain() + " " + n.Sign + " " + n.Right.Plain() + ")"
}

func (n List) Plain() string {
	return "(" + n.First.Plain() + " : " + n.Rest.Plain() + ")"
}

func (n Use) Plain() string {
	return "(" + n.Function.Plain() + " " + n.Argument.Plain() + ")"
}

func (n Part) Plain() string {
	return "(" + n.Word + " " + n.List.Plain() + ")"
}

func called(level int) string { return "v" + strconv.Itoa(level) }
