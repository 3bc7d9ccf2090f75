package skein_test

import (
	"strings"
	"testing"

	"skein/api"
	"skein/skein"
)

type evalCase struct {
	text  string
	told  string
	steps int
	err   api.Errno
}

func checkEval(t *testing.T, text string, limit int, want api.Answer) {
	t.Helper()
	if got := skein.Eval(text, limit); got != want {
		t.Errorf("P5: Eval(%q, %d) = %+v, want %+v", text, limit, got, want)
	}
}

// checkEvals asks with all steps that may be, with just enough, and with every number that is too small;
// and it asks the plain form.
func checkEvals(t *testing.T, cases []evalCase) {
	t.Helper()
	for _, c := range cases {
		want := api.Answer{Text: c.told, Steps: c.steps, Err: c.err}
		checkEval(t, c.text, api.MaxSteps, want)
		checkEval(t, c.text, c.steps, want)
		checkPlainForm(t, c.text, api.MaxSteps)
		checkPlainForm(t, c.text, c.steps/2)
		for limit := range c.steps {
			checkEval(t, c.text, limit, api.Answer{Steps: limit, Err: api.ErrSteps})
		}
	}
}

func TestEvalOrdinary(t *testing.T) {
	checkEvals(t, []evalCase{
		{text: "0", told: "0"},
		{text: "000000042", told: "42"},
		{text: "2 + 3 * 4 - 5", told: "9"},
		{text: "1 - 2 - 3", told: "-4"},
		{text: "2 * (3 - 5)", told: "-4"},
		{text: "1 = 1", told: "1"},
		{text: "1 = 2", told: "0"},
		{text: "1 < 2", told: "1"},
		{text: "2 < 2", told: "0"},
		{text: "2 < 1", told: "0"},
		{text: "0 - 2 < 0 - 1", told: "1"},
		{text: "0 - 1 < 0", told: "1"},
		{text: "if 1 then 2 else 3", told: "2"},
		{text: "if 0 then 2 else 3", told: "3"},
		{text: "if 0 - 1 then 2 else 3", told: "2"},
		{text: "if 0 then 2 else if 0 then 3 else 4", told: "4"},
		{text: `\x. x`, told: "<function>"},
		{text: `\x. \y. x`, told: "<function>"},
		{text: `let f = \x. x in f`, told: "<function>"},
		{text: `(\x. \y. x) 1`, told: "<function>", steps: 1},
		{text: `(\x. x + x) (1 + 2)`, told: "6", steps: 1},
		{text: `(\x. \y. x - y) 5 3`, told: "2", steps: 2},
		{text: `let x = 2 in let y = x * x in y + x`, told: "6"},
		{text: `let f = \n. if n then n * f (n - 1) else 1 in f 5`, told: "120", steps: 6},
		{text: `let f = \n. if n < 2 then n else f (n - 1) + f (n - 2) in f 6`, told: "8", steps: 25},
		{text: `(if 1 then \x. x + 1 else \x. x) 1`, told: "2", steps: 1},
		{text: `let a = \x. x + 1 in let b = \f. \x. f (f x) in b (b a) 0`, told: "4", steps: 9},
	})
}

func TestEvalNumbersWrapRound(t *testing.T) {
	two62 := "let a = 65536 * 32768 in let b = a * a in "
	checkEvals(t, []evalCase{
		{text: two62 + "b", told: "4611686018427387904"},
		{text: two62 + "b + (b - 1)", told: "9223372036854775807"},
		{text: two62 + "b + b", told: "-9223372036854775808"},
		{text: two62 + "b * 2", told: "-9223372036854775808"},
		{text: two62 + "b * 4", told: "0"},
		{text: two62 + "0 - b - b", told: "-9223372036854775808"},
		{text: two62 + "0 - b - b - 1", told: "9223372036854775807"},
		{text: two62 + "0 - (b + b) = b + b", told: "1"},
		{text: two62 + "b + b < b", told: "1"},
		{text: two62 + "if b * 4 then 1 else 2", told: "2"},
		{text: two62 + "if b * 2 then 1 else 2", told: "1"},
		{text: "999999999 * 999999999 * 999999999", told: "8515845249265065471"},
	})
}

func TestEvalWhatANameStandsFor(t *testing.T) {
	checkEvals(t, []evalCase{
		{text: `(\x. \x. x) 1 2`, told: "2", steps: 2},
		{text: `let x = 1 in let x = 2 in x`, told: "2"},
		{text: `let x = 1 in (let x = 2 in x) + x`, told: "3"},
		{text: `let x = 3 in let f = \y. x + y in let x = 4 in f x`, told: "7", steps: 1},
		{text: `let k = \a. \b. \c. a * 100 + b * 10 + c in let f = k 1 2 in let g = k 3 4 in f 5 + g 6`, told: "471", steps: 6},
		// An argument keeps what its names stand for where it was written.
		{text: `let x = 1 in (\f. let x = 5 in f 0) (\y. x)`, told: "1", steps: 2},
		{text: `(\x. (\y. let x = 9 in y) (x + 1)) 1`, told: "2", steps: 2},
		{text: `let f = \n. \m. if n then f (n - 1) (m + n) else m in f 4 0`, told: "10", steps: 10},
	})
}

// One function used twice, within any number of names: the second use leaves what the first one's name stands for.
func TestEvalUsesStandApart(t *testing.T) {
	for around := range 18 {
		text := strings.Repeat("let z=0 in ", around) + `let k=\x.\y.x-y in let a=k 10 in let b=k 20 in a 1*b 2+a 3*b 4`
		checkEvals(t, []evalCase{{text: text, told: "274", steps: 6}})
	}
}

func TestEvalNeedsNothingTooMuch(t *testing.T) {
	checkEvals(t, []evalCase{
		{text: `let x = 1 2 in 3`, told: "3"},
		{text: `let x = x in 3`, told: "3"},
		{text: `let x = (\y. y) 1 in 3`, told: "3"},
		{text: `(\x. 3) (1 2)`, told: "3", steps: 1},
		{text: `(\x. 3) ((\y. y y) (\y. y y))`, told: "3", steps: 1},
		{text: `(\x. 3) (let x = x in x)`, told: "3", steps: 1},
		{text: `let k = \x. \y. x in k 1 (head [])`, told: "1", steps: 2},
		{text: `if 1 then 2 else 1 2`, told: "2"},
		{text: `if 0 then 1 2 else 2`, told: "2"},
		{text: `\x. 1 2`, told: "<function>"},
		{text: `\x. (\y. y) 1`, told: "<function>"},
		{text: `let f = \x. 1 2 in if 0 then f 1 else 4`, told: "4"},
	})
}

func TestEvalReckonsNothingTwice(t *testing.T) {
	checkEvals(t, []evalCase{
		{text: `let x = (\y. y) 3 in x * x`, told: "9", steps: 1},
		{text: `(\x. x * x) ((\y. y) 3)`, told: "9", steps: 2},
		{text: `(\x. (\z. x + z) x + x) ((\y. y) 3)`, told: "9", steps: 3},
		{text: `let x = (\y. y) 3 in let f = \z. x + z in f x + f x`, told: "12", steps: 3},
		{text: `let d = \x. x + x in d (d (d (d (d 1))))`, told: "32", steps: 5},
		{text: `let x = (\y. y) (\z. z) in x 1 + x 2`, told: "3", steps: 3},
		// Known is what the name stands for, not what a function once answered.
		{text: `let f = \y. y in f 3 * f 3`, told: "9", steps: 2},
		{text: `let f = \y. let z = (\w. w) y in z + z in f 1 + f 1`, told: "4", steps: 4},
	})
}

func TestEvalGoesWrong(t *testing.T) {
	checkEvals(t, []evalCase{
		{text: `1 2`, err: api.ErrType},
		{text: `(1 2) 3`, err: api.ErrType},
		{text: `(1 + 2) 3`, err: api.ErrType},
		{text: `if \x. x then 1 else 2`, err: api.ErrType},
		{text: `(\x. x 1) 2`, steps: 1, err: api.ErrType},
		{text: `(\x. x) 1 2`, steps: 1, err: api.ErrType},
		{text: `(\x. 1 + x) (\y. y)`, steps: 1, err: api.ErrType},
		{text: `let x = x in x`, err: api.ErrLoop},
		{text: `let x = x + 1 in x`, err: api.ErrLoop},
		{text: `let x = 1 + x in x`, err: api.ErrLoop},
		{text: `let x = x 1 in x`, err: api.ErrLoop},
		{text: `let x = if x then 1 else 2 in x`, err: api.ErrLoop},
		{text: `let x = let y = x in y in x`, err: api.ErrLoop},
		{text: `let x = (\y. y) x in x`, steps: 1, err: api.ErrLoop},
		{text: `let i = \x. x in let x = i (i (i x)) in x`, steps: 3, err: api.ErrLoop},
		{text: `let f = \g. let x = g x in x in f (\y. y + 1)`, steps: 2, err: api.ErrLoop},
		// A name that needs itself only as a function goes wrong nowhere.
		{text: `let f = \n. if n then f 0 else f in f 1`, told: "<function>", steps: 2},
		{text: `let x = \y. x in x 1 2 3`, told: "<function>", steps: 3},
	})
	for _, sign := range []string{"+", "-", "*", "=", "<"} {
		checkEvals(t, []evalCase{
			{text: `(\x. x) ` + sign + ` 1`, err: api.ErrType},
			{text: `1 ` + sign + ` (\x. x)`, err: api.ErrType},
			{text: `(\x. x) ` + sign + ` (\x. x)`, err: api.ErrType},
		})
	}
}

// What goes wrong first is told, with the steps that were counted ahead of it.
func TestEvalNeedsOneBehindTheOther(t *testing.T) {
	loop := `(let x = x in x)`
	step := `(\x. x) 1`
	for _, sign := range []string{"+", "-", "*", "=", "<"} {
		checkEvals(t, []evalCase{
			{text: `(\x. x) ` + sign + loop, err: api.ErrType},
			{text: loop + sign + ` (\x. x)`, err: api.ErrLoop},
			{text: loop + sign + ` 1 2`, err: api.ErrLoop},
			{text: `1 2 ` + sign + step, err: api.ErrType},
			{text: step + sign + ` 1 2`, steps: 1, err: api.ErrType},
			{text: step + sign + loop, steps: 1, err: api.ErrLoop},
		})
	}
	checkEvals(t, []evalCase{
		{text: `1 (` + step + `)`, err: api.ErrType},
		{text: `1 ` + loop, err: api.ErrType},
		{text: loop + ` 1`, err: api.ErrLoop},
		{text: `(\f. 1) (` + step + `) (` + step + `)`, steps: 1, err: api.ErrType},
		{text: `(` + step + `) (` + step + `)`, steps: 1, err: api.ErrType},
		{text: `if ` + step + ` then 1 2 else ` + loop, steps: 1, err: api.ErrType},
		{text: `if (\x. x) 0 then 1 2 else ` + loop, steps: 1, err: api.ErrLoop},
		{text: `if 1 2 then ` + loop + ` else ` + loop, err: api.ErrType},
		{text: `let x = 1 2 in ` + loop + ` + x`, err: api.ErrLoop},
		{text: `let x = 1 2 in x + ` + loop, err: api.ErrType},
	})
}

// No limit is so great that a step without an end is not one too many.
func TestEvalStepsWithoutAnEnd(t *testing.T) {
	for _, text := range []string{
		`(\x. x x) (\x. x x)`,
		`let f = \n. f n in f 1`,
		`let f = \n. 1 + f n in f 1`,
		`let f = \n. f (n + 1) in f 1`,
		`let f = \n. f (f n) in f 1`,
		`let f = \n. let x = f n in x in f 1`,
		`let f = \n. if f n then 1 else 2 in f 1`,
		`(\x. x x x) (\x. x x x)`,
	} {
		for _, limit := range []int{0, 1, 2, 3, 100, api.MaxSteps - 1, api.MaxSteps} {
			checkEval(t, text, limit, api.Answer{Steps: limit, Err: api.ErrSteps})
		}
	}
}

func TestEvalJustEnoughSteps(t *testing.T) {
	text := `let f = \n. if n then f (n - 1) else 7 in f `
	checkEval(t, text+"499", api.MaxSteps, api.Answer{Text: "7", Steps: 500})
	checkEval(t, text+"500", api.MaxSteps, api.Answer{Steps: 500, Err: api.ErrSteps})
}

func TestEvalLimits(t *testing.T) {
	least, most := -1<<63, 1<<63-1
	for _, limit := range []int{least, -1000, -1, api.MaxSteps + 1, 1 << 32, most} {
		checkEval(t, "1", limit, api.Answer{Err: api.ErrLimit})
		checkEval(t, "1 2", limit, api.Answer{Err: api.ErrLimit})
		// What Check says comes first.
		checkEval(t, "1 +", limit, api.Answer{Err: api.ErrSyntax})
		checkEval(t, "x", limit, api.Answer{Err: api.ErrName})
		checkEval(t, strings.Repeat(" ", api.MaxText+1), limit, api.Answer{Err: api.ErrLong})
	}
	for limit := range api.MaxSteps + 1 {
		checkEval(t, "1", limit, api.Answer{Text: "1"})
		checkEval(t, "x", limit, api.Answer{Err: api.ErrName})
	}
}

func TestEvalErrorsOfCheck(t *testing.T) {
	for _, c := range []struct {
		text string
		err  api.Errno
	}{
		{"", api.ErrSyntax},
		{"1 )", api.ErrSyntax},
		{`1 + \x. x`, api.ErrSyntax},
		{"1234567890", api.ErrSyntax},
		{"(x", api.ErrSyntax},
		{"if 1 then 2 else y", api.ErrName},
		{"let x = y in 1", api.ErrName},
		{`(\x. x) x`, api.ErrName},
		{strings.Repeat(" ", api.MaxText) + "1", api.ErrLong},
		{strings.Repeat("(", api.MaxText+1), api.ErrLong},
	} {
		checkEval(t, c.text, api.MaxSteps, api.Answer{Err: c.err})
	}
}

// The longest texts need the deepest: one use within the other, each within as many sums as the text has room for.
func TestEvalDeepest(t *testing.T) {
	for _, c := range []struct{ ahead, again, behind string }{
		{`let f=\n.f n`, "+1", " in f 0"},
		{`let f=\n.1`, "*1", "+f n in f 0"},
		{`let f=\n.f`, "(n+0)", " in f 0"},
		{`let f=\n.f(n`, "+n", ") in f 0"},
	} {
		room := api.MaxText - len(c.ahead) - len(c.behind)
		text := c.ahead + strings.Repeat(c.again, room/len(c.again)) + c.behind
		if err, place := skein.Check(text); err != api.OK {
			t.Errorf("Check(%q) = %d, %d", text, err, place)
		}
		checkEval(t, text, api.MaxSteps, api.Answer{Steps: api.MaxSteps, Err: api.ErrSteps})
	}
	checkEval(t, strings.Repeat("(", 149)+"1"+strings.Repeat(")", 149), 0, api.Answer{Text: "1"})
	checkEval(t, "1"+strings.Repeat("+1", 149), 0, api.Answer{Text: "150"})
	checkEval(t, strings.Repeat(`(\x.x)`, 49)+"1", api.MaxSteps, api.Answer{Text: "1", Steps: 49})
	checkEval(t, strings.Repeat(`\x.`, 99)+"x", 0, api.Answer{Text: "<function>"})
}
