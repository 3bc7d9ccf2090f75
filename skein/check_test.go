package skein_test

import (
	"strings"
	"testing"

	"skein/api"
	"skein/skein"
)

// refused is a text with what Check answers to it.
type refused struct {
	text  string
	err   api.Errno
	place int
}

func testCheck(t *testing.T, promise string, cases []refused) {
	t.Helper()
	for _, c := range cases {
		if err, place := skein.Check(c.text); err != c.err || place != c.place {
			t.Errorf("%s: Check(%.60q) = %d, %d, want %d, %d", promise, c.text, err, place, c.err, c.place)
		}
	}
}

func TestCheckExpressions(t *testing.T) {
	for _, text := range []string{
		"1", " 1 ", "\t1\r\n", "[]", "(1)", "1 2", "1[]2(3)", "1+2-3*4", "1=2", "1<2", "1:2:[]",
		`\x.x`, `\ x . x`, "let x=1in x", "if 1then 2else 3", "if(1)then(2)else(3)",
		"let x = let y = 1 in y in x", "if if 1 then 2 else 3 then if 4 then 5 else 6 else 7",
		"head []", "tail tail []", "null(1)", "1 head [] 2", `(\x. x) (\x. x)`,
		"let f = 1 = 2 in f = 3", "(1 = 2) = 3", "1 = 2 : 3 < 4", "let lets = 1 in lets",
	} {
		testCheck(t, "P3", []refused{{text, api.OK, 0}})
	}
}

func TestCheckMisplacedSigns(t *testing.T) {
	testCheck(t, "P3", []refused{
		{"1 + )", api.ErrSyntax, 4}, {`\x x`, api.ErrSyntax, 3}, {"1)", api.ErrSyntax, 1}, {"()", api.ErrSyntax, 1},
		{"in", api.ErrSyntax, 0}, {"then 1", api.ErrSyntax, 0}, {"= 1", api.ErrSyntax, 0}, {". 1", api.ErrSyntax, 0},
		{"1 . 2", api.ErrSyntax, 2}, {"1 then", api.ErrSyntax, 2}, {"(1 in 2)", api.ErrSyntax, 3},
		{"1 = 2 = 3", api.ErrSyntax, 6}, {"1 < 2 < 3", api.ErrSyntax, 6}, {"1 = 2 : 3 = 4 < 5", api.ErrSyntax, 14},
		{"1 + let x = 1 in x", api.ErrSyntax, 4}, {`1 : \x. x`, api.ErrSyntax, 4}, {"1 if 1 then 2 else 3", api.ErrSyntax, 2},
		{`head \x. x`, api.ErrSyntax, 5}, {"tail let x = 1 in x", api.ErrSyntax, 5}, {"null - 1", api.ErrSyntax, 5},
		{"-1", api.ErrSyntax, 0}, {"1 + + 2", api.ErrSyntax, 4}, {"1 * : 2", api.ErrSyntax, 4},
		{"let 1 = 2 in 3", api.ErrSyntax, 4}, {"let head = 2 in 3", api.ErrSyntax, 4}, {`\let. 1`, api.ErrSyntax, 1},
		{"let x : 1 in 2", api.ErrSyntax, 6}, {"let x = in 2", api.ErrSyntax, 8}, {"let x = 1 then 2", api.ErrSyntax, 10},
		{"if 1 in 2", api.ErrSyntax, 5}, {"if 1 then 2 in 3", api.ErrSyntax, 12}, {"if then 1", api.ErrSyntax, 3},
	})
}

func TestCheckNoSigns(t *testing.T) {
	testCheck(t, "P3", []refused{
		{"[ ]", api.ErrSyntax, 0}, {"1 [", api.ErrSyntax, 2}, {"1 ]", api.ErrSyntax, 2}, {"A", api.ErrSyntax, 0},
		{`\xY. x`, api.ErrSyntax, 2}, {"1 _", api.ErrSyntax, 2}, {"1\v+ 2", api.ErrSyntax, 1}, {"1\f", api.ErrSyntax, 1},
		{"\u00a01", api.ErrSyntax, 0}, {"1 é", api.ErrSyntax, 2}, {"1\x00", api.ErrSyntax, 1}, {"\xff", api.ErrSyntax, 0},
		{"1 > 2", api.ErrSyntax, 2}, {"1 / 2", api.ErrSyntax, 2}, {"1, 2", api.ErrSyntax, 1},
		{") A", api.ErrSyntax, 0}, {"A )", api.ErrSyntax, 0}, {"1 ) 1234567890", api.ErrSyntax, 2},
	})
}

func TestCheckTextsEnd(t *testing.T) {
	for _, text := range []string{
		"", " ", " \t\r\n", "1 +", "1 + ", "1 :", "1 * 2 =", "(", "(1", "((1) ", `\`, `\x`, `\x.`, "let", "let x", "let x =",
		"let x = 1", "let x = 1 in", "if", "if 1", "if 1 then", "if 1 then 2", "if 1 then 2 else", "head", "null tail ",
	} {
		testCheck(t, "P3", []refused{{text, api.ErrSyntax, len(text)}})
	}
}

func TestCheckLimits(t *testing.T) {
	digits, word := strings.Repeat("7", api.MaxDigits), strings.Repeat("w", api.MaxName)
	blanks := strings.Repeat(" ", api.MaxText-1)
	testCheck(t, "P3", []refused{
		{digits, api.OK, 0}, {digits + "0", api.ErrSyntax, 0}, {"1 + " + digits + "0", api.ErrSyntax, 4},
		{"0" + digits, api.ErrSyntax, 0}, {digits + " " + digits, api.OK, 0}, {digits + digits, api.ErrSyntax, 0},
		{`\` + word + "." + word, api.OK, 0}, {`\` + word + "0. 1", api.ErrSyntax, 1}, {word, api.ErrName, 0},
		{"1 " + word + "w", api.ErrSyntax, 2}, {`\x. ` + word + digits, api.ErrSyntax, 4}, {digits + word, api.ErrName, api.MaxDigits},
		{blanks + "1", api.OK, 0}, {blanks + "(", api.ErrSyntax, api.MaxText}, {blanks + ")", api.ErrSyntax, api.MaxText - 1},
		{blanks + "x", api.ErrName, api.MaxText - 1}, {blanks + " ", api.ErrSyntax, api.MaxText},
		{blanks + " 1", api.ErrLong, 0}, {blanks + ")x", api.ErrLong, 0}, {blanks + "1 ", api.ErrLong, 0}, {")" + blanks + "1", api.ErrLong, 0},
		{strings.Repeat("é", api.MaxText/2+1), api.ErrLong, 0}, {strings.Repeat("(", 10000000), api.ErrLong, 0},
		{strings.Repeat("(", api.MaxText), api.ErrSyntax, api.MaxText},
		{strings.Repeat("(", 149) + "1" + strings.Repeat(")", 150), api.ErrSyntax, 299},
		{strings.Repeat("head ", 59) + "1", api.OK, 0}, {strings.Repeat("1:", 149) + "1", api.OK, 0}, {strings.Repeat("1 ", 150), api.OK, 0},
	})
}

func TestCheckNames(t *testing.T) {
	testCheck(t, "P3", []refused{
		{"f x", api.ErrName, 0}, {`\f. f x`, api.ErrName, 6}, {" x", api.ErrName, 1}, {"1x", api.ErrName, 1},
		{`(\x. x) x`, api.ErrName, 8}, {"(let x = 1 in x) x", api.ErrName, 17}, {`\x. \y. x y z`, api.ErrName, 12},
		{"let x = x in x", api.OK, 0}, {"let x = y in z", api.ErrName, 8}, {"let x = 1 in y", api.ErrName, 13},
		{"let f = let g = 1 in g in g", api.ErrName, 26}, {"if a then b else c", api.ErrName, 3}, {"if 1 then b else c", api.ErrName, 10},
		{`\x. (\x. x) x`, api.OK, 0}, {`\x. \xy. xy x`, api.OK, 0}, {`\xy. x`, api.ErrName, 5}, {`\x. xy`, api.ErrName, 4},
		{"v0", api.ErrName, 0}, {"heads", api.ErrName, 0}, {"x : y : z", api.ErrName, 0}, {"1 : tail y", api.ErrName, 9},
		{"y + (", api.ErrSyntax, 5}, {"x A", api.ErrSyntax, 2}, {"x y )", api.ErrSyntax, 4},
	})
}
