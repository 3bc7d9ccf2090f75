package need_test

import (
	"testing"

	"skein/api"
	"skein/fault"
	"skein/need"
	"skein/tree"
)

func text(whole tree.Node, steps *need.Steps) (told string, wrong fault.Fault) {
	defer func() { wrong = fault.Caught(recover()) }()
	return need.Text(whole, steps), fault.Fault{}
}

func num(value int64) tree.Node { return tree.Number{Value: value} }

func use(function, argument tree.Node) tree.Node {
	return tree.Use{Function: function, Argument: argument}
}

func pair(first, rest tree.Node) tree.Node { return tree.List{First: first, Rest: rest} }

func ask(word string, list tree.Node) tree.Node { return tree.Part{Word: word, List: list} }

func TestTextAndSteps(t *testing.T) {
	name := tree.Name{Level: 0}
	same := tree.Function{Level: 0, Body: name}
	self := tree.Let{Level: 0, Value: name, Body: name}
	empty := tree.Empty{}
	again := tree.Let{Level: 0, Value: pair(num(1), name), Body: name}
	minus := tree.Reckon{Sign: "-", Left: num(1), Right: num(3)}
	for _, c := range []struct {
		whole tree.Node
		limit int
		told  string
		steps int
		err   api.Errno
	}{
		{whole: num(7), told: "7"},
		{whole: minus, told: "-2"},
		{whole: same, told: "<function>"},
		{whole: use(same, minus), limit: 1, told: "-2", steps: 1},
		{whole: use(same, minus), limit: 0, err: api.ErrSteps},
		{whole: use(use(same, same), num(1)), limit: 2, told: "1", steps: 2},
		{whole: use(use(same, same), num(1)), limit: 1, steps: 1, err: api.ErrSteps},
		{whole: use(use(same, num(1)), num(1)), limit: 9, steps: 1, err: api.ErrType},
		{whole: use(num(1), num(1)), limit: 9, err: api.ErrType},
		{whole: self, err: api.ErrLoop},
		{whole: use(tree.Function{Body: num(1)}, self), limit: 1, told: "1", steps: 1},
		{whole: tree.If{Test: num(2), Then: num(1), Else: self}, told: "1"},
		{whole: tree.If{Test: num(0), Then: self, Else: num(2)}, told: "2"},
		{whole: tree.If{Test: same, Then: num(1), Else: num(2)}, err: api.ErrType},
		{whole: empty, told: "[]"},
		{whole: pair(num(1), pair(empty, empty)), limit: 2, told: "[1, []]", steps: 2},
		{whole: pair(num(1), pair(empty, empty)), limit: 1, steps: 1, err: api.ErrSteps},
		{whole: pair(num(1), num(2)), limit: 9, steps: 1, err: api.ErrType},
		{whole: pair(self, num(2)), limit: 9, steps: 1, err: api.ErrLoop},
		{whole: again, limit: 9, steps: 9, err: api.ErrSteps},
		{whole: ask("head", ask("tail", again)), told: "1"},
		{whole: ask("head", pair(num(1), self)), told: "1"},
		{whole: ask("tail", pair(self, empty)), told: "[]"},
		{whole: ask("null", pair(self, self)), told: "0"},
		{whole: ask("null", empty), told: "1"},
		{whole: ask("head", empty), err: api.ErrEmpty},
		{whole: ask("tail", empty), err: api.ErrEmpty},
		{whole: ask("null", same), err: api.ErrType},
	} {
		steps := need.Steps{Limit: c.limit}
		told, wrong := text(c.whole, &steps)
		if told != c.told || steps.Counted != c.steps || wrong != (fault.Fault{Err: c.err}) {
			t.Errorf("%s with %d steps: %q, %d, %v, want %q, %d, %d", c.whole.Plain(), c.limit, told, steps.Counted, wrong, c.told, c.steps, c.err)
		}
	}
}
