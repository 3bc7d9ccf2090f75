package signs_test

import (
	"slices"
	"testing"

	"skein/signs"
)

// all reads up to the text's end, or to a place at which no sign begins.
func all(text string) []signs.Sign {
	var got []signs.Sign
	for from := 0; ; {
		sign := signs.Next(text, from)
		got = append(got, sign)
		if sign.Kind == signs.End || sign.Kind == signs.Bad {
			return got
		}
		from = sign.Behind()
	}
}

func TestNext(t *testing.T) {
	const number, name, end, bad = signs.Number, signs.Name, signs.End, signs.Bad
	for _, c := range []struct {
		text string
		want []signs.Sign
	}{
		{"", []signs.Sign{{end, "", 0}}},
		{" \t\n\r", []signs.Sign{{end, "", 4}}},
		{"01 2", []signs.Sign{{number, "01", 0}, {number, "2", 3}, {end, "", 4}}},
		{"1x", []signs.Sign{{number, "1", 0}, {name, "x", 1}, {end, "", 2}}},
		{"x1", []signs.Sign{{name, "x1", 0}, {end, "", 2}}},
		{"123456789", []signs.Sign{{number, "123456789", 0}, {end, "", 9}}},
		{" 1234567890", []signs.Sign{{bad, "", 1}}},
		{"abc456", []signs.Sign{{name, "abc456", 0}, {end, "", 6}}},
		{" abc4567", []signs.Sign{{bad, "", 1}}},
		{"let in if", []signs.Sign{{"let", "let", 0}, {"in", "in", 4}, {"if", "if", 7}, {end, "", 9}}},
		{"then else", []signs.Sign{{"then", "then", 0}, {"else", "else", 5}, {end, "", 9}}},
		{"head tail null", []signs.Sign{{"head", "head", 0}, {"tail", "tail", 5}, {"null", "null", 10}, {end, "", 14}}},
		{"lets let1 end bad name", []signs.Sign{{name, "lets", 0}, {name, "let1", 5}, {name, "end", 10}, {name, "bad", 14}, {name, "name", 18}, {end, "", 22}}},
		{`\.=<+`, []signs.Sign{{`\`, `\`, 0}, {".", ".", 1}, {"=", "=", 2}, {"<", "<", 3}, {"+", "+", 4}, {end, "", 5}}},
		{"-*:()", []signs.Sign{{"-", "-", 0}, {"*", "*", 1}, {":", ":", 2}, {"(", "(", 3}, {")", ")", 4}, {end, "", 5}}},
		{"[][", []signs.Sign{{"[]", "[]", 0}, {bad, "", 2}}},
		{"[ ]", []signs.Sign{{bad, "", 0}}},
		{"xY", []signs.Sign{{name, "x", 0}, {bad, "", 1}}},
		{"1\v", []signs.Sign{{number, "1", 0}, {bad, "", 1}}},
		{"1\x00", []signs.Sign{{number, "1", 0}, {bad, "", 1}}},
		{"é", []signs.Sign{{bad, "", 0}}},
	} {
		if got := all(c.text); !slices.Equal(got, c.want) {
			t.Errorf("signs of %q: %v, want %v", c.text, got, c.want)
		}
	}
}
