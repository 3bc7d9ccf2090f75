package need

import "slices"

// sign is what a sign makes of the numbers on its two sides.
type sign struct {
	text string
	work func(left, right number) number
}

// part is what a word asks of a list.
type part struct {
	word string
	ask  func(of list) value
}

// The tables are made by functions, as they hold functions.
func signs() []sign {
	return []sign{
		{"+", func(left, right number) number { return left + right }},
		{"-", func(left, right number) number { return left - right }},
		{"*", func(left, right number) number { return left * right }},
		{"=", func(left, right number) number { return truth(left == right) }},
		{"<", func(left, right number) number { return truth(left < right) }},
	}
}

func parts() []part {
	return []part{
		{"head", func(of list) value { return of.full().first.need() }},
		{"tail", func(of list) value { return of.full().rest.need() }},
		{"null", func(of list) value { return truth(of.empty()) }},
	}
}

func truth(holds bool) number {
	if holds {
		return 1
	}
	return 0
}

// work is what the sign does. The parser makes no tree with a sign that has no row.
func (m maker) work(text string) func(left, right number) number {
	at := slices.IndexFunc(m.signs, func(row sign) bool { return row.text == text })
	return m.signs[at].work
}

// ask is what the word does. The parser makes no tree with a word that has no row.
func (m maker) ask(word string) func(of list) value {
	at := slices.IndexFunc(m.parts, func(row part) bool { return row.word == word })
	return m.parts[at].ask
}
