// Package parse makes a tree of a text.
//
// The grammar never needs more than the sign ahead to go on. So the sign at
// which the parser can't go on is the first that makes the text the beginning
// of no expression, and its place is the one to tell.
package parse

import (
	"slices"
	"strconv"

	"skein/api"
	"skein/fault"
	"skein/signs"
	"skein/tree"
)

const nowhere = -1

type parser struct {
	text    string
	ahead   signs.Sign
	given   []string // the names that are given here, the outermost first: its index is its level
	unknown int      // the place of the first name that stands for nothing, or nowhere

	infixes     []infix
	expressions []opener
	atoms       []opener
}

// Whole is the tree of the whole text. It panics with a fault.Fault if there is none.
func Whole(text string) tree.Node {
	if len(text) > api.MaxText {
		panic(fault.Fault{Err: api.ErrLong})
	}
	p := &parser{
		text:        text,
		ahead:       signs.Next(text, 0),
		unknown:     nowhere,
		infixes:     infixes(),
		expressions: expressions(),
		atoms:       atoms(),
	}
	whole := p.expression()
	p.take(signs.End)
	// Only now, as a wrong sign further right comes ahead of an unknown name.
	if p.unknown != nowhere {
		panic(fault.Fault{Err: api.ErrName, Place: p.unknown})
	}
	return whole
}

func (p *parser) take(kind signs.Kind) signs.Sign {
	taken := p.ahead
	if taken.Kind != kind {
		panic(p.misplaced())
	}
	p.ahead = signs.Next(p.text, taken.Behind())
	return taken
}

func (p *parser) misplaced() fault.Fault {
	return fault.Fault{Err: api.ErrSyntax, Place: p.ahead.Place}
}

// opened is the row of the sign ahead, if it has one.
func (p *parser) opened(rows []opener) (opener, bool) {
	at := slices.IndexFunc(rows, func(row opener) bool { return row.kind == p.ahead.Kind })
	if at < 0 {
		return opener{}, false
	}
	return rows[at], true
}

// between is the row of the sign ahead, if it stands between sides and binds just so near.
func (p *parser) between(near int) (infix, bool) {
	at := slices.IndexFunc(p.infixes, func(row infix) bool {
		return row.kind == p.ahead.Kind && row.near == near
	})
	if at < 0 {
		return infix{}, false
	}
	return p.infixes[at], true
}

func (p *parser) expression() tree.Node {
	if row, ok := p.opened(p.expressions); ok {
		return row.read(p)
	}
	return p.sides(nearList)
}

// sides reads what signs that bind at least so near hold together.
func (p *parser) sides(near int) tree.Node {
	if near == nearUse {
		return p.use()
	}
	left := p.sides(near + 1)
	for {
		row, ok := p.between(near)
		if !ok {
			return left
		}
		p.take(row.kind)
		left = row.join(left, p.sides(row.right))
		if !row.again {
			return left
		}
	}
}

func (p *parser) use() tree.Node {
	used := p.atom()
	for {
		row, ok := p.opened(p.atoms)
		if !ok {
			return used
		}
		used = tree.Use{Function: used, Argument: row.read(p)}
	}
}

func (p *parser) atom() tree.Node {
	row, ok := p.opened(p.atoms)
	if !ok {
		panic(p.misplaced())
	}
	return row.read(p)
}

func (p *parser) let() tree.Node {
	p.take("let")
	level := p.give(p.take(signs.Name).Text)
	p.take("=")
	value := p.expression()
	p.take("in")
	body := p.expression()
	p.forget()
	return tree.Let{Level: level, Value: value, Body: body}
}

func (p *parser) function() tree.Node {
	p.take(`\`)
	level := p.give(p.take(signs.Name).Text)
	p.take(".")
	body := p.expression()
	p.forget()
	return tree.Function{Level: level, Body: body}
}

func (p *parser) choice() tree.Node {
	p.take("if")
	test := p.expression()
	p.take("then")
	then := p.expression()
	p.take("else")
	return tree.If{Test: test, Then: then, Else: p.expression()}
}

func (p *parser) number() tree.Node {
	// No error can come of this: MaxDigits digits are always a number of 64 bits.
	value, _ := strconv.ParseInt(p.take(signs.Number).Text, 10, 64)
	return tree.Number{Value: value}
}

func (p *parser) name() tree.Node {
	name := p.take(signs.Name)
	level := p.level(name.Text)
	if level == nowhere && p.unknown == nowhere {
		p.unknown = name.Place
	}
	return tree.Name{Level: level}
}

func (p *parser) empty() tree.Node {
	p.take("[]")
	return tree.Empty{}
}

func (p *parser) brackets() tree.Node {
	p.take("(")
	inner := p.expression()
	p.take(")")
	return inner
}

func (p *parser) part() tree.Node {
	word := p.take(p.ahead.Kind).Text
	return tree.Part{Word: word, List: p.atom()}
}

// give lets a name stand for something until forget, and tells its level.
func (p *parser) give(name string) int {
	p.given = append(p.given, name)
	return len(p.given) - 1
}

func (p *parser) forget() { p.given = p.given[:len(p.given)-1] }

// level goes from the innermost name outward, as an inner one hides an outer.
func (p *parser) level(name string) int {
	for level, given := range slices.Backward(p.given) {
		if given == name {
			return level
		}
	}
	return nowhere
}
