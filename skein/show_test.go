package skein_test

import (
	"strings"
	"testing"

	"skein/api"
	"skein/skein"
)

func TestShowPlainForm(t *testing.T) {
	for _, c := range []struct{ text, want string }{
		{"0", "0"}, {"000", "0"}, {"007", "7"}, {"100", "100"}, {"999999999", "999999999"},
		{"[]", "[]"}, {"(([]))", "[]"}, {" ( 1 ) ", "1"},
		{"1+2", "(1 + 2)"}, {"1-2", "(1 - 2)"}, {"1*2", "(1 * 2)"}, {"1=2", "(1 = 2)"}, {"1<2", "(1 < 2)"}, {"1:2", "(1 : 2)"}, {"1 2", "(1 2)"},
		{"1 + 2 - 3 + 4", "(((1 + 2) - 3) + 4)"}, {"1 - (2 - 3)", "(1 - (2 - 3))"}, {"1 * 2 * 3", "((1 * 2) * 3)"},
		{"1 * 2 + 3 * 4", "((1 * 2) + (3 * 4))"}, {"1 * (2 + 3)", "(1 * (2 + 3))"}, {"1 + 2 < 3 + 4", "((1 + 2) < (3 + 4))"},
		{"1 : 2 : 3", "(1 : (2 : 3))"}, {"(1 : 2) : 3", "((1 : 2) : 3)"}, {"1 = 2 : 3 < 4 : []", "((1 = 2) : ((3 < 4) : []))"},
		{"1 2 3", "((1 2) 3)"}, {"1 (2 3)", "(1 (2 3))"}, {"1 2 * 3 4", "((1 2) * (3 4))"},
		{"head 1", "(head 1)"}, {"tail 1", "(tail 1)"}, {"null 1", "(null 1)"}, {"head tail null 1", "(head (tail (null 1)))"},
		{"head 1 2", "((head 1) 2)"}, {"1 head 2 3", "((1 (head 2)) 3)"}, {"head (1 2)", "(head (1 2))"}, {"head 1 + 2", "((head 1) + 2)"},
		{"if 1 then 2 else 3 : 4", "(if 1 then 2 else (3 : 4))"}, {"(if 1 then 2 else 3) 4", "((if 1 then 2 else 3) 4)"},
		{"let x = 1 in 2 + 3", "(let v0 = 1 in (2 + 3))"}, {`\x. 1 : 2`, `(\v0. (1 : 2))`}, {`(\x. x) 1`, `((\v0. v0) 1)`},
		{"let x = x in 1 : x : []", "(let v0 = v0 in (1 : (v0 : [])))"},
		{`\x. \y. x y 1 + 02`, `(\v0. (\v1. (((v0 v1) 1) + 2)))`},
	} {
		if got, err := skein.Show(c.text); got != c.want || err != api.OK {
			t.Errorf("P4: Show(%q) = %s, %d, want %s", c.text, got, err, c.want)
		}
	}
}

// The number of a name is that of the \ or let that gives it, wherever the name stands.
func TestShowLevels(t *testing.T) {
	for _, c := range []struct{ text, want string }{
		{`\v1. \v0. v1 v0`, `(\v0. (\v1. (v0 v1)))`},
		{`(\a. a) (\b. b)`, `((\v0. v0) (\v0. v0))`},
		{`\a. (\a. a) a`, `(\v0. ((\v1. v1) v0))`},
		{`\a. \b. \a. a b`, `(\v0. (\v1. (\v2. (v2 v1))))`},
		{"let a = let b = a in b in let b = a in b", "(let v0 = (let v1 = v0 in v1) in (let v1 = v0 in v1))"},
		{"let a = let a = a in a in a", "(let v0 = (let v1 = v1 in v1) in v0)"},
		{`let a = \b. let c = b in a in \d. a d`, `(let v0 = (\v1. (let v2 = v1 in v0)) in (\v1. (v0 v1)))`},
		{`if \a. a then let a = 1 in a else \a. \b. a`, `(if (\v0. v0) then (let v0 = 1 in v0) else (\v0. (\v1. v0)))`},
		{`\a.\b.\c.\d.\e.\f.\g.\h.\i.\j.\k.k a`, `(\v0. (\v1. (\v2. (\v3. (\v4. (\v5. (\v6. (\v7. (\v8. (\v9. (\v10. (v10 v0))))))))))))`},
	} {
		if got, err := skein.Show(c.text); got != c.want || err != api.OK {
			t.Errorf("P4: Show(%q) = %s, %d, want %s", c.text, got, err, c.want)
		}
	}
}

func TestShowErrors(t *testing.T) {
	for _, c := range []struct {
		text string
		err  api.Errno
	}{
		{"", api.ErrSyntax}, {"1 +", api.ErrSyntax}, {"1 2 )", api.ErrSyntax}, {"1234567890", api.ErrSyntax}, {"abcdefg", api.ErrSyntax},
		{"x", api.ErrName}, {`\x. x y`, api.ErrName}, {"x )", api.ErrSyntax},
		{strings.Repeat(" ", api.MaxText) + "1", api.ErrLong}, {strings.Repeat("x", api.MaxText+1), api.ErrLong},
	} {
		if got, err := skein.Show(c.text); got != "" || err != c.err {
			t.Errorf("P4: Show(%.60q) = %q, %d, want none, %d", c.text, got, err, c.err)
		}
	}
}

func TestShowLongTexts(t *testing.T) {
	deep := strings.Repeat("(", 149) + "1" + strings.Repeat(")", 149)
	if got, err := skein.Show(deep); got != "1" || err != api.OK {
		t.Errorf("P4: Show(%.20q) = %.60q, %d, want 1", deep, got, err)
	}
	used := strings.Repeat("1 ", api.MaxText/2)
	want := strings.Repeat("(", api.MaxText/2-1) + "1" + strings.Repeat(" 1)", api.MaxText/2-1)
	if got, err := skein.Show(used); got != want || err != api.OK {
		t.Errorf("P4: Show(%.20q) = %.60q, %d, want %.60q", used, got, err, want)
	}
	if got, err := skein.Show(strings.Repeat(`\x.`, 99) + "x"); !strings.HasSuffix(got, `(\v98. v98`+strings.Repeat(")", 99)) || err != api.OK {
		t.Errorf("P4: Show of 99 functions = %.60q, %d", got, err)
	}
}
