package skein_test

import (
	"sync"
	"testing"

	"skein/api"
	"skein/skein"
)

// texts are all of three parts each, with bytes and signs of every kind among them.
func texts() []string {
	parts := []string{"", " ", "\n", "\x00", "\xff", "é", "A", "[", "]", "[]", "(", ")", "1", "12345678901", "x", "abcdefg", "let ", "let x = ", " in ", "if ", " then ", " else ", "head ", "tail ", "null ", `\`, `\x. `, ".", "=", "<", "+", "-", "*", ":"}
	for c := range 256 {
		parts = append(parts, string([]byte{byte(c)}))
	}
	var all []string
	for _, first := range parts {
		for _, second := range parts {
			all = append(all, first+second, first+second+first, first+second+"1", "let x = "+first+" in "+second)
		}
	}
	return all
}

func TestCallsEndAndFit(t *testing.T) {
	for _, text := range texts() {
		err, place := skein.Check(text)
		plain, shown := skein.Show(text)
		if shown != err || (plain == "") != (err != api.OK) {
			t.Errorf("P1: Show(%q) = %q, %d, but Check answers %d", text, plain, shown, err)
		}
		if place < 0 || place > len(text) || err == api.OK && place != 0 {
			t.Errorf("P1: Check(%q) = %d, %d", text, err, place)
		}
		checkEvalFits(t, text, err)
	}
}

// checkEvalFits holds what every answer of Eval has in common against what Check answers.
func checkEvalFits(t *testing.T, text string, checked api.Errno) {
	t.Helper()
	for _, limit := range []int{-1, 0, 1, api.MaxSteps, api.MaxSteps + 1} {
		got := skein.Eval(text, limit)
		if checked != api.OK && got != (api.Answer{Err: checked}) {
			t.Errorf("P1: Eval(%q, %d) = %+v, but Check answers %d", text, limit, got, checked)
		}
		if (got.Text == "") != (got.Err != api.OK) || got.Steps < 0 || got.Steps > max(limit, 0) {
			t.Errorf("P1: Eval(%q, %d) = %+v", text, limit, got)
		}
	}
}

func TestCallsHangOnArgumentsAlone(t *testing.T) {
	text := `let x = 1 in \y. x y : head []`
	want, _ := skein.Show(text)
	steps := `let f = \n. if n then n * f (n - 1) else 1 in f 5`
	list := `let l = (\x. x) 1 : l in head tail l : []`
	var group sync.WaitGroup
	for range 8 {
		group.Go(func() {
			for _, other := range []string{"x", "", "(", `\x. x`, `(\x. x x) (\x. x x)`, "let x = x in x", "let l = 1 : l in l", text} {
				skein.Check(other)
				if got, err := skein.Show(text); got != want || err != api.OK {
					t.Errorf("P2: Show(%q) = %q, %d, want %q", text, got, err, want)
				}
				if err, place := skein.Check("x y"); err != api.ErrName || place != 0 {
					t.Errorf("P2: Check(x y) = %d, %d", err, place)
				}
				skein.Eval(other, 2)
				if got := skein.Eval(steps, 6); got != (api.Answer{Text: "120", Steps: 6}) {
					t.Errorf("P2: Eval(%q, 6) = %+v", steps, got)
				}
				if got := skein.Eval(list, 2); got != (api.Answer{Text: "[1]", Steps: 2}) {
					t.Errorf("P2: Eval(%q, 2) = %+v", list, got)
				}
			}
		})
	}
	group.Wait()
}
