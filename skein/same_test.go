package skein_test

import (
	"strings"
	"testing"

	"skein/api"
	"skein/skein"
)

// checkPlainForm holds a text against its own plain form; a plain form that is too long is no text.
func checkPlainForm(t *testing.T, text string, limit int) {
	t.Helper()
	plain, err := skein.Show(text)
	if err != api.OK {
		t.Errorf("P6: Show(%q): %d", text, err)
	}
	want := skein.Eval(text, limit)
	if len(plain) > api.MaxText {
		want = api.Answer{Err: api.ErrLong}
	} else if again, err := skein.Show(plain); again != plain || err != api.OK {
		t.Errorf("P6: Show(%q) = %q, %d", plain, again, err)
	}
	if got := skein.Eval(plain, limit); got != want {
		t.Errorf("P6: Eval(%q, %d) = %+v, want %+v as of %q", plain, limit, got, want, text)
	}
}

// The texts of one row are one expression: other names, other blanks, more brackets.
func TestSameExpression(t *testing.T) {
	for _, c := range []struct {
		texts []string
		told  string
		steps int
		err   api.Errno
	}{
		{[]string{`1:2:[]`, `1 : 2 : []`, `(1 : (2 : []))`, `((1)) : ((2 : ([])))`, "001\t:\r\n02:[]"}, "[1, 2]", 2, api.OK},
		{[]string{`1 - 2 - 3`, `(1 - 2) - 3`, `((1 - 2) - 3)`}, "-4", 0, api.OK},
		{[]string{`1 + 2 * 3 < 8 : []`, `((1 + (2 * 3)) < 8) : []`}, "[1]", 1, api.OK},
		{[]string{`(\x. x + x) (1 + 2)`, `(\v0. v0 + v0) (1 + 2)`, `((\v7. (v7 + v7)) (1 + 2))`, `(\lets. lets + lets)(1+2)`}, "6", 1, api.OK},
		{[]string{`(\x. \y. x - y) 5 3`, `(\y. \x. y - x) 5 3`, `(\v1. \v0. v1 - v0) 5 3`, `((((\v0. (\v1. (v0 - v1)))) 5) 3)`}, "2", 2, api.OK},
		{[]string{`(\x. \x. x) 5 3`, `(\x. \y. y) 5 3`, `(\v1. \v1. v1) 5 3`}, "3", 2, api.OK},
		{[]string{`let x = 1 in (let x = 2 in x) + x`, `let x = 1 in (let y = 2 in y) + x`, `let v1 = 1 in (let v0 = 2 in v0) + v1`}, "3", 0, api.OK},
		{[]string{`let l = 1 : l in head tail tail l`, `let v0 = 1 : v0 in head (tail (tail v0))`, `(let v0 = (1 : v0) in (head (tail (tail v0))))`}, "1", 0, api.OK},
		{[]string{`let l = 1 : tail l in l`, `let heads = (1 : tail heads) in heads`}, "", 1, api.ErrLoop},
		{[]string{`1 : 2 : 3`, `1 : (2 : 3)`}, "", 2, api.ErrType},
		{[]string{`head [] : []`, `(head []) : []`, `((head ([])) : [])`}, "", 1, api.ErrEmpty},
		{[]string{`let l = 1 : l in l`, `let x = (1 : x) in (x)`}, "", api.MaxSteps, api.ErrSteps},
	} {
		plain, _ := skein.Show(c.texts[0])
		for _, text := range c.texts {
			if got, err := skein.Show(text); got != plain || err != api.OK {
				t.Errorf("P6: Show(%q) = %q, %d, want %q", text, got, err, plain)
			}
			checkEval(t, text, api.MaxSteps, api.Answer{Text: c.told, Steps: c.steps, Err: c.err})
			checkPlainForm(t, text, api.MaxSteps)
		}
	}
}

// Brackets that may not be left out, and names given elsewhere, make another expression.
func TestOtherExpression(t *testing.T) {
	for _, c := range []struct{ text, other, told, otherTold string }{
		{`1 - 2 - 3`, `1 - (2 - 3)`, "-4", "2"},
		{`1 : 2 : []`, `(1 : []) : 2 : []`, "[1, 2]", "[[1], 2]"},
		{`(\x. \y. x) 1 2`, `(\x. \y. y) 1 2`, "1", "2"},
		{`let x = 1 in let y = x in let x = 2 in y`, `let x = 1 in let y = x in let x = 2 in x`, "1", "2"},
		{`(\f. f 1 + 1) (\x. x * 3)`, `(\f. f (1 + 1)) (\x. x * 3)`, "4", "6"},
	} {
		plain, _ := skein.Show(c.text)
		if other, _ := skein.Show(c.other); other == plain {
			t.Errorf("P6: Show(%q) = Show(%q) = %q", c.text, c.other, plain)
		}
		for text, told := range map[string]string{c.text: c.told, c.other: c.otherTold} {
			if got := skein.Eval(text, api.MaxSteps); got.Text != told {
				t.Errorf("P6: Eval(%q) = %+v, want %q", text, got, told)
			}
		}
	}
}

// The longest plain form that is still a text, and the first that is none.
func TestSameAtTheLongest(t *testing.T) {
	behind := strings.Repeat(":1", 48) + ":[]"
	for _, c := range []struct {
		first string
		bytes int
		want  api.Answer
	}{
		{"12345", api.MaxText, api.Answer{Text: "[12345" + strings.Repeat(", 1", 48) + "]", Steps: 49}},
		{"123456", api.MaxText + 1, api.Answer{Err: api.ErrLong}},
	} {
		plain, err := skein.Show(c.first + behind)
		if len(plain) != c.bytes || err != api.OK {
			t.Errorf("P6: Show(%q) has %d bytes, %d, want %d", c.first+behind, len(plain), err, c.bytes)
		}
		checkEval(t, plain, api.MaxSteps, c.want)
		checkPlainForm(t, c.first+behind, api.MaxSteps)
	}
}
