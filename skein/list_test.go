package skein_test

import (
	"strconv"
	"strings"
	"testing"

	"skein/api"
	"skein/skein"
)

func TestEvalListsOrdinary(t *testing.T) {
	take := `let take = \k. \l. if k then head l : take (k - 1) (tail l) else [] in `
	each := `let m = \f. \l. if null l then [] else f (head l) : m f (tail l) in `
	checkEvals(t, []evalCase{
		{text: `[]`, told: "[]"},
		{text: `([])`, told: "[]"},
		{text: `1 : []`, told: "[1]", steps: 1},
		{text: `1 : 2 : []`, told: "[1, 2]", steps: 2},
		{text: `1 : 2 : 3 : 4 : []`, told: "[1, 2, 3, 4]", steps: 4},
		{text: `0 - 1 : 1 + 1 : 2 = 2 : 3 < 2 : []`, told: "[-1, 2, 1, 0]", steps: 4},
		{text: `(\x. x) : []`, told: "[<function>]", steps: 1},
		{text: `let x = 1 in x : x : []`, told: "[1, 1]", steps: 2},
		{text: `if null [] then 1 : [] else []`, told: "[1]", steps: 1},
		{text: `head (1 : 2 : [])`, told: "1"},
		{text: `tail (1 : 2 : [])`, told: "[2]", steps: 1},
		{text: `tail (1 : [])`, told: "[]"},
		{text: `head (tail (1 : 2 : []))`, told: "2"},
		{text: `head tail tail (1 : 2 : 3 : [])`, told: "3"},
		{text: `null []`, told: "1"},
		{text: `null (1 : [])`, told: "0"},
		{text: `null tail (1 : [])`, told: "1"},
		{text: `null tail (1 : 2 : [])`, told: "0"},
		{text: `head ((\x. x + 1) : []) 2`, told: "3", steps: 1},
		{text: `(\l. tail l) (1 : 2 : [])`, told: "[2]", steps: 2},
		{text: `(\x. x : x : []) 3`, told: "[3, 3]", steps: 3},
		{text: `let s = \l. if null l then 0 else head l + s (tail l) in s (1 : 2 : 3 : [])`, told: "6", steps: 4},
		{text: `let j = \a. \b. if null a then b else head a : j (tail a) b in j (1 : 2 : []) (3 : [])`, told: "[1, 2, 3]", steps: 9},
		{text: each + `m (\x. x * x) (1 : 2 : 3 : [])`, told: "[1, 4, 9]", steps: 14},
		{text: take + `take 2 (7 : 8 : 9 : [])`, told: "[7, 8]", steps: 8},
	})
}

func TestEvalListsWithoutAnEnd(t *testing.T) {
	up := `let up = \n. n : up (n + 1) in `
	take := `let take = \k. \l. if k then head l : take (k - 1) (tail l) else [] in `
	checkEvals(t, []evalCase{
		{text: up + `head (up 5)`, told: "5", steps: 1},
		{text: up + `head tail tail (up 5)`, told: "7", steps: 3},
		{text: up + `null (up 5)`, told: "0", steps: 1},
		{text: up + take + `take 3 (up 5)`, told: "[5, 6, 7]", steps: 14},
		{text: up + take + `take 0 (up 5)`, told: "[]", steps: 2},
		{text: take + `let l = 1 : 2 : l in take 5 l`, told: "[1, 2, 1, 2, 1]", steps: 17},
		{text: up + `let at = \k. \l. if k then at (k - 1) (tail l) else head l in at 4 (up 0)`, told: "4", steps: 15},
	})
}

func TestEvalListOfItself(t *testing.T) {
	each := `let m = \f. \l. if null l then [] else f (head l) : m f (tail l) in `
	zip := `let z = \a. \b. head a + head b : z (tail a) (tail b) in `
	checkEvals(t, []evalCase{
		{text: `let l = 1 : l in head l`, told: "1"},
		{text: `let l = 1 : l in head (tail (tail l))`, told: "1"},
		{text: `let l = 1 : tail l in head l`, told: "1"},
		{text: `let l = 1 : 2 : tail l in head tail tail l`, told: "2"},
		{text: `let l = head tail l : 2 : [] in l`, told: "[2, 2]", steps: 2},
		{text: `let l = 1 : head l : head tail l : [] in l`, told: "[1, 1, 1]", steps: 3},
		{text: `let l = l : [] in null head head head l`, told: "0"},
		{text: each + `let n = 1 : m (\x. x * 2) n in head (tail (tail n))`, told: "4", steps: 6},
		{text: zip + `let f = 0 : 1 : z f (tail f) in head tail tail tail tail tail f`, told: "5", steps: 8},
	})
}

// One step for each part that is told, counted ahead of what the part needs.
func TestEvalListStepsInOrder(t *testing.T) {
	step := `(\x. x) 1`
	loop := `(let x = x in x)`
	checkEvals(t, []evalCase{
		{text: step + ` : []`, told: "[1]", steps: 2},
		{text: step + ` : ` + step + ` : []`, told: "[1, 1]", steps: 4},
		{text: `1 : (\x. x) []`, told: "[1]", steps: 2},
		{text: `1 : (\x. 2 : x) []`, told: "[1, 2]", steps: 3},
		// The step comes ahead of the first, the first ahead of the rest.
		{text: `1 2 : ` + loop, steps: 1, err: api.ErrType},
		{text: loop + ` : 1`, steps: 1, err: api.ErrLoop},
		{text: step + ` 2 : []`, steps: 2, err: api.ErrType},
		{text: step + ` : ` + loop, steps: 2, err: api.ErrLoop},
		{text: `head [] : ` + step, steps: 1, err: api.ErrEmpty},
		{text: `1 : ` + step, steps: 2, err: api.ErrType},
		{text: `1 : head [] : []`, steps: 2, err: api.ErrEmpty},
		{text: step + ` : 2 : ` + step + ` : tail []`, steps: 5, err: api.ErrEmpty},
		// Telling a first counts its own steps, ahead of needing the rest.
		{text: `(` + step + ` : []) : 1 2`, steps: 3, err: api.ErrType},
		{text: `(1 : 2) : ` + loop, steps: 2, err: api.ErrType},
		{text: `(1 : 2 : []) : ` + loop, steps: 3, err: api.ErrLoop},
		{text: `[] : ` + loop, steps: 1, err: api.ErrLoop},
	})
}

func TestEvalListsWithinLists(t *testing.T) {
	checkEvals(t, []evalCase{
		{text: `[] : []`, told: "[[]]", steps: 1},
		{text: `[] : [] : []`, told: "[[], []]", steps: 2},
		{text: `(1 : []) : []`, told: "[[1]]", steps: 2},
		{text: `((1 : []) : []) : []`, told: "[[[1]]]", steps: 3},
		{text: `(1 : 2 : []) : 3 : 4 : []`, told: "[[1, 2], 3, 4]", steps: 5},
		{text: `(1 : []) : (\x. x) : [] : []`, told: "[[1], <function>, []]", steps: 4},
		{text: `1 : (2 : (3 : []) : []) : []`, told: "[1, [2, [3]]]", steps: 5},
		// A list that is told twice is told in steps twice, but its parts are needed once.
		{text: `let l = (\x. x) 1 : [] in l : l : []`, told: "[[1], [1]]", steps: 5},
		{text: `let l = 1 : 2 : [] in l : l`, told: "[[1, 2], 1, 2]", steps: 5},
		{text: `let p = 1 : (\x. x) [] in p : tail p : p`, told: "[[1], [], 1]", steps: 5},
		{text: `(1 : (2 : 3)) : []`, steps: 3, err: api.ErrType},
		{text: `(1 : (head [] : [])) : []`, steps: 3, err: api.ErrEmpty},
	})
}

func TestEvalListNeedsNothingTooMuch(t *testing.T) {
	loop := `(let x = x in x)`
	for _, bad := range []string{`head []`, `1 2`, loop, `(\x. x x) (\x. x x)`} {
		checkEvals(t, []evalCase{
			{text: `head (1 : ` + bad + `)`, told: "1"},
			{text: `tail (` + bad + ` : [])`, told: "[]"},
			{text: `tail (` + bad + ` : 2 : [])`, told: "[2]", steps: 1},
			{text: `null ((` + bad + `) : ` + bad + `)`, told: "0"},
			{text: `null tail ((` + bad + `) : (` + bad + `) : ` + bad + `)`, told: "0"},
			{text: `head tail ((` + bad + `) : 2 : ` + bad + `)`, told: "2"},
			{text: `let l = (` + bad + `) : ` + bad + ` in 1`, told: "1"},
			{text: `(\l. 1 : []) ((` + bad + `) : ` + bad + `)`, told: "[1]", steps: 2},
			{text: `if null ((` + bad + `) : ` + bad + `) then ` + bad + ` else 1`, told: "1"},
		})
	}
	checkEvals(t, []evalCase{
		{text: `head (1 : 2)`, told: "1"},
		{text: `tail (1 : 2)`, told: "2"},
		{text: `null (1 : 2)`, told: "0"},
		{text: `let l = 1 : l in null l`, told: "0"},
	})
}

func TestEvalListReckonsNothingTwice(t *testing.T) {
	checkEvals(t, []evalCase{
		{text: `let l = (\y. y) 3 : [] in head l * head l`, told: "9", steps: 1},
		{text: `let l = 1 : (\y. y) [] in null tail l + null tail l`, told: "2", steps: 1},
		{text: `let x = (\y. y) 3 : x in head x + head (tail x)`, told: "6", steps: 1},
		{text: `(\l. head l + head l) ((\y. y) 3 : [])`, told: "6", steps: 2},
		{text: `let l = (\y. y) (1 : 2 : []) in head l + head tail l`, told: "3", steps: 1},
		{text: `let l = (\y. y) 3 : [] in let m = 1 : l in head l + head tail m + head tail m`, told: "9", steps: 1},
		{text: `let l = (\y. y) 3 : (\y. y) [] in if head l then l else tail l`, told: "[3]", steps: 3},
		{text: `let l = (\y. y) 3 : (\y. y) [] in if null tail l then l else l`, told: "[3]", steps: 3},
		// A first of its own each time that the list is made anew.
		{text: `let f = \a. (\y. y) 3 : [] in head (f 1) + head (f 1)`, told: "6", steps: 4},
	})
}

func TestEvalListGoesWrong(t *testing.T) {
	for _, word := range []string{"head", "tail", "null"} {
		checkEvals(t, []evalCase{
			{text: word + ` 1`, err: api.ErrType},
			{text: word + ` (\x. x)`, err: api.ErrType},
			{text: word + ` (1 + 1)`, err: api.ErrType},
			{text: word + ` (1 2)`, err: api.ErrType},
			{text: word + ` head []`, err: api.ErrEmpty},
			{text: word + ` tail (1 : 2)`, err: api.ErrType},
			{text: word + ` ((\x. x) 1)`, steps: 1, err: api.ErrType},
			{text: word + ` (let x = x in x)`, err: api.ErrLoop},
			{text: `let x = ` + word + ` x in x`, err: api.ErrLoop},
		})
	}
	checkEvals(t, []evalCase{
		{text: `head []`, err: api.ErrEmpty},
		{text: `tail []`, err: api.ErrEmpty},
		{text: `tail tail (1 : [])`, err: api.ErrEmpty},
		{text: `head tail (1 : [])`, err: api.ErrEmpty},
		{text: `(\l. head l) []`, steps: 1, err: api.ErrEmpty},
		{text: `1 : 2`, steps: 1, err: api.ErrType},
		{text: `1 : 2 : 3`, steps: 2, err: api.ErrType},
		{text: `1 : (\x. x)`, steps: 1, err: api.ErrType},
		{text: `tail (1 : 2 : 3)`, steps: 1, err: api.ErrType},
		{text: `[] 1`, err: api.ErrType},
		{text: `(1 : []) 1`, err: api.ErrType},
		{text: `if [] then 1 else 2`, err: api.ErrType},
		{text: `if 1 : [] then 1 else 2`, err: api.ErrType},
	})
	for _, sign := range []string{"+", "-", "*", "=", "<"} {
		checkEvals(t, []evalCase{
			{text: `[] ` + sign + ` 1`, err: api.ErrType},
			{text: `1 ` + sign + ` []`, err: api.ErrType},
			{text: `[] ` + sign + ` []`, err: api.ErrType},
			{text: `(1 : []) ` + sign + ` 1`, err: api.ErrType},
			{text: `[] ` + sign + ` head []`, err: api.ErrType},
			{text: `head [] ` + sign + ` []`, err: api.ErrEmpty},
		})
	}
}

// A first or a rest that is just being needed is not needed again.
func TestEvalListNeedsItself(t *testing.T) {
	checkEvals(t, []evalCase{
		{text: `let l = head l : [] in head l`, err: api.ErrLoop},
		{text: `let l = head l : [] in l`, steps: 1, err: api.ErrLoop},
		{text: `let l = 1 : tail l in tail l`, err: api.ErrLoop},
		{text: `let l = 1 : tail l in l`, steps: 1, err: api.ErrLoop},
		{text: `let l = head l + 1 : [] in l`, steps: 1, err: api.ErrLoop},
		{text: `let l = head tail l : head l : [] in l`, steps: 1, err: api.ErrLoop},
		{text: `let l = head tail l : head l : [] in tail l`, steps: 1, err: api.ErrLoop},
		{text: `let l = 1 : (if null tail l then [] else []) in l`, steps: 1, err: api.ErrLoop},
		{text: `let l = 1 : (\x. x) (tail l) in l`, steps: 2, err: api.ErrLoop},
		{text: `let l = 1 : 2 : tail tail l in l`, steps: 2, err: api.ErrLoop},
		{text: `let x = 1 : x in let y = head y : x in head tail y + head y`, err: api.ErrLoop},
		{text: `let l = tail l in null l`, err: api.ErrLoop},
		// Told within itself is no such need: the first is known by then.
		{text: `let l = 1 : [] in let k = l : k in head tail tail k`, told: "[1]", steps: 1},
	})
}

func TestEvalListToldWithoutAnEnd(t *testing.T) {
	for _, text := range []string{
		`let l = 1 : l in l`,
		`let l = [] : l in l`,
		`let l = l : l in l`,
		`let l = l : [] in l`,
		`let l = 1 : 2 : 3 : l in tail l`,
		`let l = (1 : l) : l in head l`,
		`let up = \n. n : up (n + 1) in up 0`,
		`let f = \n. f n : [] in f 1`,
		`let f = \n. tail (f n) in f 1`,
		`let f = \n. 1 : f n in let g = \l. null l + g (tail l) in g (f 1)`,
	} {
		for _, limit := range []int{0, 1, 2, 3, 100, api.MaxSteps - 1, api.MaxSteps} {
			checkEval(t, text, limit, api.Answer{Steps: limit, Err: api.ErrSteps})
		}
	}
}

func TestEvalListJustEnoughSteps(t *testing.T) {
	// Two steps for each part, one for the end.
	down := `let f = \n. if n then n - 1 : f (n - 1) else [] in `
	want := "[248"
	for n := 247; n >= 0; n-- {
		want += ", " + strconv.Itoa(n)
	}
	checkEval(t, down+"f 249", api.MaxSteps, api.Answer{Text: want + "]", Steps: 499})
	checkEval(t, down+"f 250", api.MaxSteps, api.Answer{Steps: 500, Err: api.ErrSteps})
	checkEval(t, down+"1 : f 249", api.MaxSteps, api.Answer{Text: "[1, " + want[1:] + "]", Steps: 500})
}

// The deepest that a text has room for: lists within lists, parts of parts, a rest within a rest.
func TestEvalListDeepest(t *testing.T) {
	for _, c := range []struct{ ahead, open, inner, shut, behind string }{
		{`let f=\n.`, "head(", "f n", ":[])", " in f 0"},
		{`let f=\n.`, "tail(0:", "f n", ")", " in f 0"},
		{`let f=\n.`, "tail ", "(f n)", "", " in f 0"},
		{`let f=\n.`, "0:", "f n", "", " in f 0"},
		{`let f=\n.`, "", "f n", ":[]", " in f 0"},
		{`let f=\n.`, "(", "f n", ":[])", " in f 0"},
		{`let l=`, "(", "l", ":[])", " in l"},
	} {
		room := api.MaxText - len(c.ahead+c.inner+c.behind)
		count := room / len(c.open+c.shut)
		text := c.ahead + strings.Repeat(c.open, count) + c.inner + strings.Repeat(c.shut, count) + c.behind
		if err, place := skein.Check(text); err != api.OK {
			t.Errorf("Check(%q) = %d, %d", text, err, place)
		}
		checkEval(t, text, api.MaxSteps, api.Answer{Steps: api.MaxSteps, Err: api.ErrSteps})
	}
	checkEval(t, strings.Repeat("(", 59)+"[]"+strings.Repeat(":[])", 59), 59, api.Answer{Text: strings.Repeat("[", 60) + strings.Repeat("]", 60), Steps: 59})
	checkEval(t, strings.Repeat("1:", 149)+"[]", 149, api.Answer{Text: "[1" + strings.Repeat(", 1", 148) + "]", Steps: 149})
}
