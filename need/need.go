// Package need tells what an expression is.
//
// A tree becomes closures, made once. They are called with what the names
// stand for, and only where the document says that their expression is needed.
package need

import "skein/tree"

// code is an expression made ready: to call it is to need the expression.
type code func(names scope) value

// Text is the value of the whole expression, told as text. It panics with a
// fault.Fault if that goes wrong; what was counted by then stands in steps.
func Text(whole tree.Node, steps *Steps) string {
	m := maker{steps: steps, signs: signs(), parts: parts()}
	return m.code(whole)(nil).text(steps)
}

// maker has what the closures share.
type maker struct {
	steps *Steps
	signs []sign
	parts []part
}

func (m maker) code(node tree.Node) code {
	switch node := node.(type) {
	case tree.Number:
		return m.number(node)
	case tree.Name:
		return m.name(node)
	case tree.Function:
		return m.function(node)
	case tree.Use:
		return m.use(node)
	case tree.Let:
		return m.let(node)
	case tree.If:
		return m.choice(node)
	case tree.Reckon:
		return m.reckon(node)
	case tree.Empty:
		return m.empty()
	case tree.List:
		return m.list(node)
	case tree.Part:
		return m.part(node)
	}
	// The parser makes no other.
	panic("need: a node of no known kind")
}

func (m maker) number(node tree.Number) code {
	known := number(node.Value)
	return func(scope) value { return known }
}

func (m maker) name(node tree.Name) code {
	return func(names scope) value { return names[node.Level].need() }
}

func (m maker) function(node tree.Function) code {
	body := m.code(node.Body)
	return func(names scope) value {
		return function(func(argument *held) value { return body(names.with(argument)) })
	}
}

func (m maker) use(node tree.Use) code {
	used, argument := m.code(node.Function), m.code(node.Argument)
	return func(names scope) value {
		call := as[function](used(names))
		m.steps.count()
		return call(&held{code: argument, names: names})
	}
}

func (m maker) let(node tree.Let) code {
	given, body := m.code(node.Value), m.code(node.Body)
	return func(names scope) value {
		it := &held{code: given}
		// The name stands for itself within what it stands for.
		it.names = names.with(it)
		return body(it.names)
	}
}

func (m maker) choice(node tree.If) code {
	test, then, otherwise := m.code(node.Test), m.code(node.Then), m.code(node.Else)
	return func(names scope) value {
		if as[number](test(names)) != 0 {
			return then(names)
		}
		return otherwise(names)
	}
}

func (m maker) reckon(node tree.Reckon) code {
	work := m.work(node.Sign)
	left, right := m.code(node.Left), m.code(node.Right)
	return func(names scope) value {
		// The left side must be seen to be a number ahead of needing the right one.
		a := as[number](left(names))
		b := as[number](right(names))
		return work(a, b)
	}
}

func (m maker) empty() code {
	return func(scope) value { return list{} }
}

func (m maker) list(node tree.List) code {
	first, rest := m.code(node.First), m.code(node.Rest)
	return func(names scope) value {
		return list{
			first: &held{code: first, names: names},
			rest:  &held{code: rest, names: names},
		}
	}
}

func (m maker) part(node tree.Part) code {
	ask, whole := m.ask(node.Word), m.code(node.List)
	return func(names scope) value { return ask(as[list](whole(names))) }
}
