package skein_test

import (
	"slices"
	"strings"
	"testing"

	"skein/api"
	"skein/skein"
)

// rule is one line of the document's grammar, without what may be left out:
// then every rule has a sign, and the look at beginnings below stays simple.
type rule struct {
	made  string
	parts []string
}

func grammar() []rule {
	var rules []rule
	for _, line := range strings.Split(strings.TrimSpace(`
expression let x = expression in expression
expression \ x . expression
expression if expression then expression else expression
expression list
list order
list order : list
order sum
order sum = sum
order sum < sum
sum product
sum sum + product
sum sum - product
product use
product product * use
use atom
use use atom
atom 1
atom x
atom []
atom ( expression )
atom head atom
atom tail atom
atom null atom`), "\n") {
		words := strings.Fields(line)
		rules = append(rules, rule{words[0], words[1:]})
	}
	return rules
}

// item: of a rule so many parts stand ahead, the first of them at that sign.
type item struct{ rule, done, from int }

// beginning is what may go on behind each sign of a beginning (Earley's sets).
type beginning struct {
	rules []rule
	sets  [][]item
}

func newBeginning() *beginning {
	b := &beginning{rules: grammar()}
	b.sets = [][]item{b.closed(b.opened(nil, "expression", 0))}
	return b
}

func (b *beginning) opened(set []item, made string, from int) []item {
	for i, r := range b.rules {
		if r.made == made && !slices.Contains(set, item{i, 0, from}) {
			set = append(set, item{i, 0, from})
		}
	}
	return set
}

// closed adds to a set all that its items lead to; it is the set behind those of b.
func (b *beginning) closed(set []item) []item {
	for at := 0; at < len(set); at++ {
		i := set[at]
		r := b.rules[i.rule]
		if i.done < len(r.parts) {
			set = b.opened(set, r.parts[i.done], len(b.sets))
			continue
		}
		for _, outer := range b.sets[i.from] {
			parts := b.rules[outer.rule].parts
			next := item{outer.rule, outer.done + 1, outer.from}
			if outer.done < len(parts) && parts[outer.done] == r.made && !slices.Contains(set, next) {
				set = append(set, next)
			}
		}
	}
	return set
}

// push adds a sign; false if that is the beginning of no expression any more.
func (b *beginning) push(sign string) bool {
	var set []item
	for _, i := range b.sets[len(b.sets)-1] {
		parts := b.rules[i.rule].parts
		if i.done < len(parts) && parts[i.done] == sign {
			set = append(set, item{i.rule, i.done + 1, i.from})
		}
	}
	b.sets = append(b.sets, b.closed(set))
	return len(set) > 0
}

func (b *beginning) pop() { b.sets = b.sets[:len(b.sets)-1] }

// whole tells whether the signs so far are an expression.
func (b *beginning) whole() bool {
	return slices.ContainsFunc(b.sets[len(b.sets)-1], func(i item) bool {
		r := b.rules[i.rule]
		return r.made == "expression" && i.done == len(r.parts) && i.from == 0
	})
}

// TestCheckAgainstGrammar lays every row of signs, up to a length, against the grammar as it stands in the document.
func TestCheckAgainstGrammar(t *testing.T) {
	const most = 5
	signs := strings.Fields(`let in if then else head tail null x 1 \ . = < + - * : ( ) []`)
	b := newBeginning()
	var walk func(text string, length int)
	walk = func(text string, length int) {
		testAgainstGrammar(t, text, b.whole(), len(text))
		if length == most {
			return
		}
		for _, sign := range signs {
			longer := text + sign + " "
			if b.push(sign) {
				walk(longer, length+1)
			} else {
				testAgainstGrammar(t, longer+"1 )", false, len(text))
			}
			b.pop()
		}
	}
	walk("", 0)
}

func testAgainstGrammar(t *testing.T, text string, whole bool, place int) {
	t.Helper()
	err, at := skein.Check(text)
	plain, shown := skein.Show(text)
	switch {
	case shown != err || (plain == "") != (err != api.OK):
		t.Errorf("P4: Show(%q) = %q, %d, but Check answers %d", text, plain, shown, err)
	case !whole && (err != api.ErrSyntax || at != place):
		t.Errorf("P3: Check(%q) = %d, %d, want %d, %d", text, err, at, api.ErrSyntax, place)
	case whole && err != api.OK && (err != api.ErrName || text[at] != 'x'):
		t.Errorf("P3: Check(%q) = %d, %d, but it is an expression", text, err, at)
	case err == api.OK:
		testShownAgain(t, text, plain)
	}
}

// Show's text is the same expression: so its plain form is itself.
func testShownAgain(t *testing.T, text, plain string) {
	t.Helper()
	if again, err := skein.Show(plain); len(plain) <= api.MaxText && (again != plain || err != api.OK) {
		t.Errorf("P4: Show(%q) = %q, which is shown as %q, %d", text, plain, again, err)
	}
}
