package need

import "slices"

// sign is what a sign makes of the numbers on its two sides.
type sign struct {
	text string
	work func(left, right number) number
}

// The table is made by a function, as it holds functions.
func signs() []sign {
	return []sign{
		{"+", func(left, right number) number { return left + right }},
		{"-", func(left, right number) number { return left - right }},
		{"*", func(left, right number) number { return left * right }},
		{"=", func(left, right number) number { return truth(left == right) }},
		{"<", func(left, right number) number { return truth(left < right) }},
	}
}

func truth(holds bool) number {
	if holds {
		return 1
	}
	return 0
}

// work is what the sign does. The parser makes no tree with a sign that has no row.
func (m maker) work(text string) func(left, right number) number {
	at := slices.IndexFunc(m.signs, func(row sign) bool { return row.text == text })
	return m.signs[at].work
}
