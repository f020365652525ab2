package head_test

import (
	"math"
	"math/big"
	"math/rand"
	"reflect"
	"slices"
	"strconv"
	"strings"
	"sync"
	"testing"
	"unsafe"

	"gossamer/api"
	"gossamer/core"
	"gossamer/head"
	"gossamer/parse"
	"gossamer/subst"
	"gossamer/sugar"
)

// Kinds, steps, errors and limits are written as numbers: the chapters tell them so.

const (
	none = 0
	beta = 1
	took = 2 // an alternative
	oper = 3
	fail = 4

	errArg  = 1
	errFuel = 90
	errWide = 91

	mostTerm = 5000
	mostFuel = 100000

	levels = 1 << 16
	great  = 1 << 62
	fewest = math.MinInt
	most   = math.MaxInt
)

func variable(n int) api.Term              { return api.Term{Kind: 1, N: n} }
func lam(b api.Term) api.Term              { return api.Term{Kind: 2, L: []api.Term{b}} }
func app(f, a api.Term) api.Term           { return api.Term{Kind: 3, L: []api.Term{f, a}} }
func con(s string, l ...api.Term) api.Term { return api.Term{Kind: 4, Name: s, L: l} }
func number(n int) api.Term                { return api.Term{Kind: 7, N: n} }
func op(s string, a, b api.Term) api.Term  { return api.Term{Kind: 8, Name: s, L: []api.Term{a, b}} }
func failed() api.Term                     { return api.Term{Kind: 9} }

func choice(x api.Term, alts ...api.Term) api.Term {
	return api.Term{Kind: 5, L: append([]api.Term{x}, alts...)}
}

func alt(s string, n int, b api.Term) api.Term {
	return api.Term{Kind: 6, Name: s, N: n, L: []api.Term{b}}
}

// signs are the operators.
func signs() []string { return []string{"+", "-", "*", "/", "<", "=="} }

// reader reads a text of a term, as core.Text writes it.
type reader struct{ rest string }

// word is what stands ahead of the next blank or sign, and is read.
func (r *reader) word() string {
	n := strings.IndexAny(r.rest, " ()")
	if n < 0 {
		n = len(r.rest)
	}
	s := r.rest[:n]
	r.rest = r.rest[n:]
	return s
}

func (r *reader) term() api.Term {
	if !strings.HasPrefix(r.rest, "(") {
		return leaf(r.word())
	}
	r.rest = r.rest[1:]
	x := headed(r.word())
	for strings.HasPrefix(r.rest, " ") {
		r.rest = r.rest[1:]
		x.L = append(x.L, r.term())
	}
	r.rest = strings.TrimPrefix(r.rest, ")")
	return x
}

func leaf(s string) api.Term {
	if s == "!" {
		return failed()
	}
	n, _ := strconv.Atoi(strings.TrimPrefix(s, "#"))
	if strings.HasPrefix(s, "#") {
		return variable(n)
	}
	return number(n)
}

func headed(s string) api.Term {
	switch {
	case s == `\`:
		return api.Term{Kind: 2}
	case s == "@":
		return api.Term{Kind: 3}
	case s == "?":
		return api.Term{Kind: 5}
	case slices.Contains(signs(), s):
		return api.Term{Kind: 8, Name: s}
	}
	name, digits, is := strings.Cut(s, ":")
	if !is {
		return api.Term{Kind: 4, Name: name}
	}
	n, _ := strconv.Atoi(digits)
	return api.Term{Kind: 6, Name: name, N: n}
}

// term is the one whose text is s; a slip in s is told.
func term(t *testing.T, s string) api.Term {
	t.Helper()
	r := reader{s}
	x := r.term()
	if r.rest != "" || core.Text(x) != s {
		t.Fatalf("%q is no term's text", s)
	}
	return x
}

// program is the term of a program's text.
func program(t *testing.T, s string) api.Term {
	t.Helper()
	tree, at, e := parse.Parse(s, 200)
	if e != api.OK {
		t.Fatalf("%q: Parse: error %d at %d", s, e, at)
	}
	x, at, e := sugar.Core(tree)
	if e != api.OK {
		t.Fatalf("%q: Core: error %d at %d", s, e, at)
	}
	return x
}

func pick[T any](r *rand.Rand, l ...T) T { return l[r.Intn(len(l))] }

// told is x as a failure tells it: no more than its first bytes, no others than ASCII's.
func told(x api.Term) string {
	s := strconv.QuoteToASCII(core.Text(x))
	if len(s) > 400 {
		s = s[:400] + ".."
	}
	return s
}

// copied is x, of which no list and no name is x's.
func copied(x api.Term) api.Term {
	l := make([]api.Term, 0, len(x.L))
	for _, p := range x.L {
		l = append(l, copied(p))
	}
	x.Name = strings.Clone(x.Name)
	x.L = l
	return x
}

// equal tells if nothing is other in a and in b, as the language tells it.
func equal(a, b api.Term) bool { return reflect.DeepEqual(copied(a), copied(b)) }

func chain(n int, x api.Term) api.Term {
	for range n {
		x = lam(x)
	}
	return x
}

// Checks.

func checkStep(t *testing.T, x, want api.Term, what int) {
	t.Helper()
	got, did := head.Step(x)
	if did != what || !equal(got, want) {
		t.Errorf("Step(%s): %d, %s; want %d, %s", told(x), did, told(got), what, told(want))
	}
}

func checkStepText(t *testing.T, x string, what int, want string) {
	t.Helper()
	checkStep(t, term(t, x), term(t, want), what)
}

func checkNoStep(t *testing.T, x api.Term) {
	t.Helper()
	checkStep(t, x, x, none)
}

func checkRun(t *testing.T, x api.Term, fuel int, want api.Term, steps int, e api.Errno) {
	t.Helper()
	got, did, err := head.Run(x, fuel)
	if did != steps || err != e || !equal(got, want) {
		t.Errorf("Run(%s, %d): %s, %d, %d; want %s, %d, %d", told(x), fuel, told(got), did, err, told(want), steps, e)
	}
}

// checkSteps asks for x with just as much fuel as it needs, with more, and with less.
func checkSteps(t *testing.T, x api.Term, steps int, want api.Term) {
	t.Helper()
	for _, fuel := range []int{steps, min(steps+1, mostFuel), mostFuel} {
		checkRun(t, x, fuel, want, steps, 0)
	}
	for _, fuel := range []int{0, 1, steps / 2, steps - 1} {
		if fuel >= 0 && fuel < steps {
			checkRun(t, x, fuel, api.Term{}, fuel, errFuel)
		}
	}
}

func checkError(t *testing.T, x api.Term, fuel, steps int, e api.Errno) {
	t.Helper()
	checkRun(t, x, fuel, api.Term{}, steps, e)
}

// P9.1.

func TestStepOfTheDocument(t *testing.T) {
	checkStepText(t, `(@ (\ #0) 1)`, beta, "1")
}

func TestWhatIsApplied(t *testing.T) {
	for _, c := range []struct {
		x    string
		what int
		want string
	}{
		{`(@ (\ #0) (@ (\ #0) 1))`, beta, `(@ (\ #0) 1)`},
		{`(@ (\ (P #0 #0)) (+ 1 2))`, beta, "(P (+ 1 2) (+ 1 2))"},
		{`(@ (\ 7) (/ 1 0))`, beta, "7"},
		{`(@ (\ !) 7)`, beta, "!"},
		{`(@ (\ (\ #1)) 7)`, beta, `(\ 7)`},
		{`(@ (\ (\ #0)) 7)`, beta, `(\ #0)`},
		{`(@ (\ (@ #0 #0)) (\ (@ #0 #0)))`, beta, `(@ (\ (@ #0 #0)) (\ (@ #0 #0)))`},
		{`(@ (\ (@ (\ #0) #0)) !)`, beta, `(@ (\ #0) !)`},
		{`(@ (\ (? #0 (A:2 (P #0 #1 #2)))) (+ 1 2))`, beta, "(? (+ 1 2) (A:2 (P #0 #1 (+ 1 2))))"},
		// Free variables keep their binders.
		{`(@ (\ #0) #3)`, beta, "#3"},
		{`(@ (\ #4) #0)`, beta, "#3"},
		{`(@ (\ (@ #1 #0)) #3)`, beta, "(@ #0 #3)"},
		{`(@ (\ (\ (P #0 #1 #2))) #5)`, beta, `(\ (P #0 #6 #1))`},
		{"(@ 1 2)", fail, "!"},
		{"(@ -1 (+ 1 2))", fail, "!"},
		{"(@ (Nil) 2)", fail, "!"},
		{"(@ (P 1 2) #0)", fail, "!"},
		{"(@ (True) (@ #0 #0))", fail, "!"},
		{`(@ ! (\ #0))`, fail, "!"},
		{`(@ (@ (\ #0) 1) (@ (\ #0) 2))`, beta, `(@ 1 (@ (\ #0) 2))`},
		{`(@ (@ (\ (\ #1)) 1) (@ (\ #0) 2))`, beta, `(@ (\ 1) (@ (\ #0) 2))`},
		{`(@ (@ (@ 1 2) 3) 4)`, fail, "(@ (@ ! 3) 4)"},
		{`(@ (? (A) (A:0 #7)) #1)`, took, "(@ #7 #1)"},
		{`(@ (? 1 (A:0 #7)) #1)`, fail, "(@ ! #1)"},
		{"(@ (+ 1 2) 3)", oper, "(@ 3 3)"},
		{"(@ (< 1 2) 3)", oper, "(@ (True) 3)"},
		{"(@ #0 (@ 1 2))", none, "(@ #0 (@ 1 2))"},
		{"(@ (@ #0 (@ 1 2)) (@ 1 2))", none, "(@ (@ #0 (@ 1 2)) (@ 1 2))"},
		{"(@ (? #0 (A:0 1)) 2)", none, "(@ (? #0 (A:0 1)) 2)"},
		{"(@ (+ #0 1) 2)", none, "(@ (+ #0 1) 2)"},
	} {
		checkStepText(t, c.x, c.what, c.want)
	}
}

func TestWhatIsLookedAt(t *testing.T) {
	for _, c := range []struct {
		x    string
		what int
		want string
	}{
		{"(? (A) (A:0 1))", took, "1"},
		{"(? (A) (B:0 1) (A:0 2) (C:0 3))", took, "2"},
		{"(? (C) (B:0 1) (A:0 2) (C:0 3))", took, "3"},
		{"(? (B) (B:0 (+ 1 2)) (A:0 (@ 1 2)))", took, "(+ 1 2)"},
		{"(? (A 7) (A:1 #0))", took, "7"},
		{"(? (A 7 8) (A:2 (P #0 #1)))", took, "(P 8 7)"},
		{"(? (A 7 8 9) (B:0 1) (A:3 (P #0 #1 #2)))", took, "(P 9 8 7)"},
		{"(? (A 7 8) (A:2 1))", took, "1"},
		{"(? (A 1 2 3 4 5 6 7 8) (A:8 (P #7 #6 #5 #4 #3 #2 #1 #0)))", took, "(P 1 2 3 4 5 6 7 8)"},
		{"(? (A (/ 1 0) (+ 1 2)) (A:2 (P #0 #0)))", took, "(P (+ 1 2) (+ 1 2))"},
		// Free variables keep their binders.
		{"(? (A #0 #5) (A:2 (P #0 #1 #2 #9)))", took, "(P #5 #0 #0 #7)"},
		{`(? (A #0 #5) (A:2 (\ (P #0 #1 #2 #3 #9))))`, took, `(\ (P #0 #6 #1 #1 #7))`},
		{"(? (A 1) (A:1 (? #0 (A:1 (P #0 #1 #2)))))", took, "(? 1 (A:1 (P #0 1 #1)))"},
		// No alternative of that name, or none of as many variables.
		{"(? (A) (B:0 1))", fail, "!"},
		{"(? (A) (B:0 1) (C:0 2) (AA:0 3) (A0:0 4))", fail, "!"},
		{"(? (A) (A:1 #0))", fail, "!"},
		{"(? (A 1) (A:0 2))", fail, "!"},
		{"(? (A 1) (A:2 #0) (B:1 #0))", fail, "!"},
		{"(? (A 1 2 3) (A:2 #0))", fail, "!"},
		{`(? (\ #0) (A:0 1))`, fail, "!"},
		{"(? 1 (A:0 1))", fail, "!"},
		{"(? 0 (True:0 1) (False:0 2))", fail, "!"},
		{"(? ! (A:0 1))", fail, "!"},
		{`(? (@ (\ (A #0)) (+ 1 2)) (A:1 (+ #0 1)) (B:2 (+ #0 2)))`, beta, "(? (A (+ 1 2)) (A:1 (+ #0 1)) (B:2 (+ #0 2)))"},
		{"(? (? (A) (A:0 (B))) (B:0 (+ 1 1)))", took, "(? (B) (B:0 (+ 1 1)))"},
		{"(? (? (A) (C:0 (B))) (B:0 (+ 1 1)))", fail, "(? ! (B:0 (+ 1 1)))"},
		{"(? (== 1 1) (True:0 (+ 1 1)) (False:0 2))", oper, "(? (True) (True:0 (+ 1 1)) (False:0 2))"},
		{"(? #0 (A:0 (+ 1 1)))", none, "(? #0 (A:0 (+ 1 1)))"},
		{"(? (@ #0 (+ 1 1)) (A:0 (+ 1 1)))", none, "(? (@ #0 (+ 1 1)) (A:0 (+ 1 1)))"},
		{"(? (? #0 (A:0 (B))) (B:0 (+ 1 1)))", none, "(? (? #0 (A:0 (B))) (B:0 (+ 1 1)))"},
	} {
		checkStepText(t, c.x, c.what, c.want)
	}
}

// TestWhatIsReckonedWith asks for each operator of parts of each kind.
func TestWhatIsReckonedWith(t *testing.T) {
	apart := []string{`(\ #0)`, "(A)", "(A (+ 1 2))", "!"}
	inside := []struct {
		x    string
		what int
		want string
	}{
		{`(@ (\ (+ #0 1)) 5)`, beta, "(+ 5 1)"}, {"(@ 1 2)", fail, "!"},
		{"(? (A) (A:0 (+ 1 1)))", took, "(+ 1 1)"}, {"(? 1 (A:0 2))", fail, "!"},
		{"(- 5 6)", oper, "-1"}, {"(/ 5 0)", fail, "!"}, {"(< 5 6)", oper, "(True)"}, {"(+ 1 (- 5 6))", oper, "(+ 1 -1)"},
		{"#0", none, "#0"}, {"(@ #0 (+ 1 2))", none, "(@ #0 (+ 1 2))"}, {"(? #0 (A:0 2))", none, "(? #0 (A:0 2))"}, {"(+ #0 (+ 1 2))", none, "(+ #0 (+ 1 2))"},
	}
	of := func(sign, a, b string) string { return "(" + sign + " " + a + " " + b + ")" }
	for _, s := range signs() {
		for _, a := range apart {
			for _, b := range append([]string{"1", "0"}, apart...) {
				checkStepText(t, of(s, a, b), fail, "!")
			}
			checkStepText(t, of(s, "1", a), fail, "!")
			checkStepText(t, of(s, "0", a), fail, "!")
			for _, i := range inside {
				checkStepText(t, of(s, a, i.x), fail, "!")
				checkStepText(t, of(s, i.x, a), i.what, of(s, i.want, a))
			}
		}
		for _, i := range inside {
			checkStepText(t, of(s, i.x, "1"), i.what, of(s, i.want, "1"))
			checkStepText(t, of(s, "1", i.x), i.what, of(s, "1", i.want))
			// The left one is first, and while it is not a number the right one is left.
			checkStepText(t, of(s, i.x, "(+ 1 2)"), i.what, of(s, i.want, "(+ 1 2)"))
			checkStepText(t, of(s, i.x, "(@ 1 2)"), i.what, of(s, i.want, "(@ 1 2)"))
		}
	}
}

// reckoned is what a sign tells of numbers, as numbers without end tell it.
func reckoned(sign string, a, b int) (api.Term, int) {
	x, y := big.NewInt(int64(a)), big.NewInt(int64(b))
	truth := func(is bool) (api.Term, int) { return con(map[bool]string{true: "True", false: "False"}[is]), oper }
	switch sign {
	case "+":
		x.Add(x, y)
	case "-":
		x.Sub(x, y)
	case "*":
		x.Mul(x, y)
	case "/":
		if b == 0 {
			return failed(), fail
		}
		x.Quo(x, y)
	case "<":
		return truth(x.Cmp(y) < 0)
	case "==":
		return truth(x.Cmp(y) == 0)
	}
	whole := new(big.Int).Lsh(big.NewInt(1), 64)
	x.Mod(x, whole)
	if x.Bit(63) == 1 {
		x.Sub(x, whole)
	}
	return number(int(x.Int64())), oper
}

func TestNumbers(t *testing.T) {
	for _, c := range []struct {
		x    string
		what int
		want string
	}{
		{"(+ 1 2)", oper, "3"}, {"(- 1 2)", oper, "-1"}, {"(* -3 4)", oper, "-12"},
		{"(/ 7 2)", oper, "3"}, {"(/ -7 2)", oper, "-3"}, {"(/ 7 -2)", oper, "-3"}, {"(/ -7 -2)", oper, "3"},
		{"(/ 1 2)", oper, "0"}, {"(/ -1 2)", oper, "0"}, {"(/ 0 5)", oper, "0"},
		{"(/ 1 0)", fail, "!"}, {"(/ 0 0)", fail, "!"}, {"(/ -9223372036854775808 0)", fail, "!"},
		{"(< 1 2)", oper, "(True)"}, {"(< 2 2)", oper, "(False)"}, {"(< 3 2)", oper, "(False)"}, {"(< -3 2)", oper, "(True)"},
		{"(== 2 2)", oper, "(True)"}, {"(== 2 3)", oper, "(False)"}, {"(== 2 -2)", oper, "(False)"},
		{"(/ -9223372036854775808 -1)", oper, "-9223372036854775808"},
		{"(* -9223372036854775808 -1)", oper, "-9223372036854775808"},
		{"(+ 9223372036854775807 1)", oper, "-9223372036854775808"},
		{"(- -9223372036854775808 1)", oper, "9223372036854775807"},
		{"(- 0 -9223372036854775808)", oper, "-9223372036854775808"},
		{"(* 9223372036854775807 9223372036854775807)", oper, "1"},
		{"(* 4294967296 4294967296)", oper, "0"},
		{"(* 4294967296 2147483648)", oper, "-9223372036854775808"},
		{"(< -9223372036854775808 9223372036854775807)", oper, "(True)"},
		{"(< 9223372036854775807 -9223372036854775808)", oper, "(False)"},
	} {
		checkStepText(t, c.x, c.what, c.want)
	}
}

func TestNumbersOfAllSizes(t *testing.T) {
	r := rand.New(rand.NewSource(1))
	l := []int{fewest, fewest + 1, -great, -1 << 32, -1 << 31, -7, -2, -1, 0, 1, 2, 3, 10, 1 << 31, 1 << 32, great, most - 1, most}
	for range 20 {
		l = append(l, int(r.Uint64())>>r.Intn(64))
	}
	for _, s := range signs() {
		for _, a := range l {
			for _, b := range l {
				want, what := reckoned(s, a, b)
				checkStep(t, op(s, number(a), number(b)), want, what)
			}
		}
	}
}

// TestWhatHasNoStep has steps within what has none.
func TestWhatHasNoStep(t *testing.T) {
	for _, s := range []string{
		"#0", "#7", "0", "1", "-1", "!", "(Nil)", "(P 1 2)", `(\ #0)`, `(\ #3)`, `(\ 1)`, `(\ !)`,
		`(\ (@ (\ #0) 1))`, `(\ (+ 1 2))`, `(\ (? (A) (A:0 1)))`, `(\ (@ 1 2))`, `(\ (/ 1 0))`,
		"(P (+ 1 2))", "(P 1 (@ 1 2))", `(P (@ (\ #0) 1) (? (A) (A:0 1)))`,
		"(@ #0 #1)", "(@ (@ #0 1) 2)", "(+ #0 (+ 1 2))", "(+ #0 !)", "(+ #0 (A))", "(+ 1 #0)", "(== #0 #0)", "(/ #0 0)",
	} {
		checkNoStep(t, term(t, s))
	}
}

// TestDeeperIn asks for a step within each one that waits for it, and within one another.
func TestDeeperIn(t *testing.T) {
	arounds := []func(x api.Term) api.Term{
		func(x api.Term) api.Term { return app(x, op("+", number(1), number(2))) },
		func(x api.Term) api.Term {
			return choice(x, alt("A", 2, app(variable(1), variable(3))), alt("B", 0, op("+", number(1), number(2))))
		},
		func(x api.Term) api.Term { return op("-", x, op("+", number(1), number(2))) },
		func(x api.Term) api.Term { return op("<", number(3), x) },
	}
	steps := []struct {
		x    string
		what int
		want string
	}{
		{`(@ (\ (P #0 #4)) #2)`, beta, "(P #2 #3)"}, {"(? (A #2) (A:1 #0))", took, "#2"}, {"(* 6 7)", oper, "42"},
		{"(== 6 7)", oper, "(False)"}, {"(@ 1 2)", fail, "!"}, {"(? (A) (B:0 1))", fail, "!"}, {"(/ 1 0)", fail, "!"}, {"#3", none, "#3"},
	}
	for _, s := range steps {
		x, want := term(t, s.x), term(t, s.want)
		for _, f := range arounds {
			checkStep(t, f(x), f(want), s.what)
			for _, g := range arounds {
				checkStep(t, f(g(x)), f(g(want)), s.what)
				for _, h := range arounds {
					checkStep(t, f(g(h(x))), f(g(h(want))), s.what)
				}
			}
		}
	}
}

func TestTermsThatMayNotBeHaveNoStep(t *testing.T) {
	ready := func() api.Term { return app(lam(variable(0)), number(1)) }
	wrong := []api.Term{
		{}, {Kind: -1}, {Kind: 10}, {Kind: fewest}, {Kind: 2}, {Kind: 3}, {Kind: 5}, {Kind: 6}, {Kind: 8}, {Kind: 4},
		variable(-1), variable(great), variable(most), {Kind: 1, Name: "x"}, {Kind: 1, L: []api.Term{number(1)}},
		{Kind: 7, Name: "A"}, {Kind: 7, L: []api.Term{number(1)}}, {Kind: 9, N: 1}, {Kind: 9, L: []api.Term{failed()}},
		alt("A", 0, number(1)), alt("A", 0, ready()), con("a"), con("A B"), con("ABCDEFGHIJKLMNOPQ"), {Kind: 4, Name: "A", N: 1},
		con("A", slices.Repeat([]api.Term{number(1)}, 9)...), lam(alt("A", 0, number(1))),
		choice(number(1)), choice(con("A"), number(1)), choice(con("A"), alt("A", 0, number(1)), alt("A", 0, number(2))),
		choice(con("A"), alt("A", 9, number(1))), choice(con("A"), alt("A", -1, number(1))), choice(con("A"), alt("a", 0, number(1))),
		choice(alt("A", 0, number(1)), alt("A", 0, number(1))), lam(lam(variable(great + 2))),
		op("%", number(1), number(2)), op("", number(1), number(2)), op("A", number(1), number(2)),
		{Kind: 2, N: 1, L: []api.Term{variable(0)}}, {Kind: 2, Name: "x", L: []api.Term{variable(0)}},
		{Kind: 3, N: 1, L: ready().L}, {Kind: 3, Name: "x", L: ready().L}, {Kind: 3, L: append(ready().L, number(2))}, {Kind: 3, L: ready().L[:1]},
		{Kind: 8, N: 1, Name: "+", L: []api.Term{number(1), number(2)}}, {Kind: 8, Name: "+", L: []api.Term{number(1)}},
		{Kind: 8, Name: "+", L: []api.Term{number(1), number(2), number(3)}},
	}
	for _, x := range wrong {
		checkNoStep(t, x)
		checkError(t, x, mostFuel, 0, errArg)
		// As a part, looked at or not: the whole one may not be.
		for _, y := range []api.Term{app(lam(number(1)), x), app(x, number(1)), con("A", x), op("+", ready(), x), app(ready(), x), choice(ready(), alt("A", 0, number(1)), x)} {
			if x.Kind == 6 && core.May(y, great) {
				continue // an alternative stands in a case
			}
			checkNoStep(t, y)
			checkError(t, y, mostFuel, 0, errArg)
		}
	}
}

// TestHowManyFreeVariables has those of 2^62 free variables, and one more.
func TestHowManyFreeVariables(t *testing.T) {
	id := lam(variable(0))
	checkStep(t, app(id, variable(great-1)), variable(great-1), beta)
	checkNoStep(t, app(id, variable(great)))
	checkStep(t, app(lam(variable(great)), number(1)), variable(great-1), beta)
	checkNoStep(t, app(lam(variable(great+1)), number(1)))
	checkStep(t, app(lam(lam(variable(great+1))), number(1)), lam(variable(great)), beta)
	checkNoStep(t, app(lam(lam(variable(great+2))), number(1)))
	checkStep(t, app(lam(lam(variable(1))), variable(great-1)), lam(variable(great)), beta)
	checkStep(t, choice(con("A", number(1), variable(great-1)), alt("A", 2, variable(great+1))), variable(great-1), took)
	checkStep(t, choice(con("A", number(1), variable(great-1)), alt("A", 2, variable(0))), variable(great-1), took)
	checkNoStep(t, choice(con("A", number(1), variable(great-1)), alt("A", 2, variable(great+2))))
	checkNoStep(t, choice(con("A", number(1), variable(great)), alt("A", 2, variable(0))))
	checkStep(t, app(op("+", number(1), number(2)), variable(great-1)), app(number(3), variable(great-1)), oper)
	checkNoStep(t, app(op("+", number(1), number(2)), variable(great)))
	checkNoStep(t, variable(great-1))
	checkNoStep(t, variable(great))
}

// P9.1, held against the chapter's words, kind by kind.

func readStep(x api.Term) (api.Term, int) {
	if !core.May(x, great) {
		return x, none
	}
	inPlace := func(i int) (api.Term, int) {
		y := copied(x)
		p, what := readStep(y.L[i])
		y.L[i] = p
		return y, what
	}
	switch x.Kind {
	case 3:
		f, a := x.L[0], x.L[1]
		switch f.Kind {
		case 2:
			return subst.Put(f.L[0], 0, a), beta
		case 4, 7, 9:
			return failed(), fail
		}
		return inPlace(0)
	case 5:
		s := x.L[0]
		switch s.Kind {
		case 4:
			for _, a := range x.L[1:] {
				if a.Name == s.Name && a.N == len(s.L) {
					return subst.Inst(a.L[0], s.L), took
				}
			}
			return failed(), fail
		case 2, 7, 9:
			return failed(), fail
		}
		return inPlace(0)
	case 8:
		a, b := x.L[0], x.L[1]
		switch a.Kind*10 + b.Kind {
		case 77:
			return reckoned(x.Name, a.N, b.N)
		case 72, 74, 79:
			return failed(), fail
		}
		switch a.Kind {
		case 2, 4, 9:
			return failed(), fail
		case 7:
			return inPlace(1)
		}
		return inPlace(0)
	}
	return x, none
}

// likely is a term that may be, of so many free variables; much of it has steps.
func likely(r *rand.Rand, deep, free int) api.Term {
	part := func(more int) api.Term { return likely(r, deep-1-r.Intn(2), free+more) }
	if deep <= 0 {
		x := pick(r, number(r.Intn(5)-1), number(r.Intn(5)-1), con(pick(r, "A", "B", "True")), failed())
		if free > 0 && r.Intn(4) > 0 {
			x = variable(r.Intn(free))
		}
		return x
	}
	switch r.Intn(12) {
	case 0, 1:
		return lam(part(1))
	case 2, 3:
		return app(lam(part(1)), part(0))
	case 4, 5:
		return app(part(0), part(0))
	case 6:
		x := con(pick(r, "A", "B", "C"))
		for range r.Intn(4) {
			x.L = append(x.L, part(0))
		}
		return x
	case 7:
		return op(pick(r, signs()...), part(0), part(0))
	case 8:
		return op(pick(r, signs()...), pick(r, part(0), number(r.Intn(9)-2)), number(r.Intn(9)-2))
	case 9:
		return choice(op(pick(r, "<", "=="), part(0), part(0)), alt("True", 0, part(0)), alt("False", 0, part(0)))
	case 10:
		n := r.Intn(4)
		x := con(pick(r, "A", "B", "C"))
		for range n {
			x.L = append(x.L, part(0))
		}
		return choice(x, alt("C", n, part(n)), alt(x.Name+"x", n, part(n)), alt(pick(r, "A", "B"), n, part(n)))
	}
	x := choice(part(0))
	for _, i := range r.Perm(3)[:1+r.Intn(3)] {
		n := r.Intn(3)
		x.L = append(x.L, alt("ABC"[i:i+1], n, part(n)))
	}
	return x
}

// harm changes one thing of x, or of one of its parts.
func harm(r *rand.Rand, x *api.Term) {
	if len(x.L) > 0 && r.Intn(4) > 0 {
		harm(r, &x.L[r.Intn(len(x.L))])
		return
	}
	switch r.Intn(5) {
	case 0:
		x.Kind = r.Intn(12) - 1
	case 1:
		x.Name = pick(r, "", "x", "A", "B", "+", "1", "=", " A")
	case 2:
		x.N = pick(r, -1, 0, 1, 2, 3, 8, 9, fewest, most, great)
	case 3:
		if len(x.L) > 0 {
			x.L = x.L[:len(x.L)-1]
		}
	case 4:
		x.L = append(slices.Clip(x.L), pick(r, variable(0), number(1), alt("A", 1, number(1)), alt("C", 0, variable(0))))
	}
}

// wild is a term that has anything.
func wild(r *rand.Rand, deep int) api.Term {
	x := api.Term{
		Kind: pick(r, 1, 2, 3, 3, 4, 5, 6, 7, 8, 8, 9, 0, -1, 10, fewest, most),
		N:    pick(r, 0, 0, 0, 0, 1, 2, 8, 9, -1, fewest, most),
		Name: pick(r, "", "", "", "A", "B", "+", "/", "x", "(", "\xff", "let"),
	}
	for range r.Intn(4) {
		if deep > 0 {
			x.L = append(x.L, wild(r, deep-1))
		}
	}
	return x
}

// checkRead asks for the step of x, held against the chapter's words, and tells what it is.
func checkRead(t *testing.T, x api.Term) int {
	t.Helper()
	want, what := readStep(x)
	checkStep(t, x, want, what)
	return what
}

func checkOften(t *testing.T, seen map[int]int, least int) {
	t.Helper()
	for what := none; what <= fail; what++ {
		if seen[what] < least {
			t.Errorf("few of %d: %v", what, seen)
		}
	}
}

func TestStepsOfTermsThatMayBe(t *testing.T) {
	t.Parallel()
	r := rand.New(rand.NewSource(2))
	seen := map[int]int{}
	for range 20000 {
		x := likely(r, r.Intn(6), r.Intn(4))
		for range 5 {
			seen[checkRead(t, x)]++
			if core.Size(x) > 1000 {
				break
			}
			x, _ = head.Step(x)
		}
	}
	checkOften(t, seen, 1000)
}

func TestStepsOfHarmedTerms(t *testing.T) {
	t.Parallel()
	r := rand.New(rand.NewSource(3))
	seen := map[int]int{}
	for range 20000 {
		x := likely(r, 1+r.Intn(4), r.Intn(3))
		harm(r, &x)
		seen[checkRead(t, x)]++
		if !core.May(x, 0) {
			checkError(t, x, r.Intn(100), 0, errArg)
		}
	}
	checkOften(t, seen, 200)
}

func TestStepsOfWildTerms(t *testing.T) {
	t.Parallel()
	r := rand.New(rand.NewSource(4))
	for range 20000 {
		x := wild(r, r.Intn(5))
		checkRead(t, x)
		fuel := pick(r, 0, 1, 7, mostFuel, mostFuel+1, -1, fewest, most)
		if !core.May(x, 0) || fuel < 0 || fuel > mostFuel {
			checkError(t, x, fuel, 0, errArg)
		} else {
			head.Run(x, fuel)
		}
	}
}

// small are the terms of that size over few names and numbers, of so many free variables.
func small(size, free int) []api.Term {
	if size == 1 {
		l := []api.Term{number(0), number(1), con("A"), failed()}
		for n := range free {
			l = append(l, variable(n))
		}
		return l
	}
	var l []api.Term
	for _, b := range small(size-1, free+1) {
		l = append(l, lam(b))
	}
	for _, p := range small(size-1, free) {
		l = append(l, con("A", p))
	}
	for n := 1; n < size-1; n++ {
		for _, a := range small(n, free) {
			for _, b := range small(size-1-n, free) {
				l = append(l, app(a, b), op("-", a, b), op("/", a, b), op("==", a, b))
			}
			if n < size-2 {
				for _, b := range small(size-2-n, free+1) {
					l = append(l, choice(a, alt("A", 1, b)))
				}
				for _, b := range small(size-2-n, free) {
					l = append(l, choice(a, alt("A", 0, b)))
				}
			}
		}
	}
	return l
}

func TestStepsOfAllSmallTerms(t *testing.T) {
	t.Parallel()
	seen := map[int]int{}
	for size := 1; size <= 5; size++ {
		for _, x := range small(size, 1) {
			seen[checkRead(t, x)]++
		}
	}
	checkOften(t, seen, 40)
}

// P9.2.

func TestRunsOfSmallTerms(t *testing.T) {
	checkSteps(t, sums(2499, number(1)), 2499, number(2500))
	for _, c := range []struct {
		x     string
		steps int
		want  string
	}{
		{"7", 0, "7"}, {"!", 0, "!"}, {"(Nil)", 0, "(Nil)"}, {`(\ #0)`, 0, `(\ #0)`},
		{`(\ (+ 1 2))`, 0, `(\ (+ 1 2))`}, {"(P (+ 1 2) (@ 1 2))", 0, "(P (+ 1 2) (@ 1 2))"},
		{`(@ (\ #0) 1)`, 1, "1"}, {"(+ 1 2)", 1, "3"}, {"(? (A) (A:0 1))", 1, "1"}, {"(@ 1 2)", 1, "!"}, {"(/ 1 0)", 1, "!"},
		{`(@ (\ (P #0 #0)) (+ 1 2))`, 1, "(P (+ 1 2) (+ 1 2))"},
		{`(@ (\ 5) (/ 1 0))`, 1, "5"},
		{`(@ (\ (+ #0 #0)) (* 2 3))`, 4, "12"},
		{`(@ (@ (\ (\ (- #1 #0))) 9) 4)`, 3, "5"},
		{`(@ (@ (\ (\ #1)) 9) (@ (\ (@ #0 #0)) (\ (@ #0 #0))))`, 2, "9"},
		{"(+ (+ 1 2) (+ 3 4))", 3, "10"}, {"(- (* 2 (+ 3 4)) (/ 9 2))", 4, "10"},
		{"(@ (@ (@ 1 2) 3) 4)", 3, "!"}, {"(+ (/ 1 0) (@ 1 2))", 2, "!"}, {"(+ 1 (/ 1 0))", 2, "!"},
		{"(? (? 1 (A:0 2)) (A:0 1))", 2, "!"},
		{"(? (< 1 2) (True:0 (+ 1 1)) (False:0 (@ 1 2)))", 3, "2"},
		{"(? (< 2 1) (True:0 (+ 1 1)) (False:0 (P (@ 1 2))))", 2, "(P (@ 1 2))"},
		{"(? (P (+ 1 2) (/ 1 0)) (P:2 (+ #1 #1)))", 4, "6"},
		{`(@ (? (P 4 (\ (+ #0 1))) (P:2 #0)) (? (P 4) (P:1 #0)))`, 4, "5"},
		{`(@ (\ (@ #0 #0)) (\ (\ #0)))`, 2, `(\ #0)`},
		{`(@ (\ (@ #0 (@ #0 1))) (\ (+ #0 #0)))`, 7, "4"},
	} {
		checkSteps(t, term(t, c.x), c.steps, term(t, c.want))
	}
}

func TestRunsOfPrograms(t *testing.T) {
	for _, c := range []struct{ x, want string }{
		{"1 + 1", "2"},
		{"let x = 2 * 3 in Cons x x", "(Cons (* 2 3) (* 2 3))"},
		{"1 / 0", "!"},
		{"letrec f = \\n. case n == 0 of { True -> 1 | False -> n * f (n - 1) } in f 10", "3628800"},
		{"letrec f = \\n. case n == 0 of { True -> 1 | False -> n * f (n - 1) } in f 70", "0"},
		{"letrec f = \\n. case n < 2 of { True -> n | False -> f (n - 1) + f (n - 2) } in f 9", "34"},
		{"letrec l = Cons 7 l in case l of { Nil -> 0 | Cons x y -> case y of { Cons z w -> x * 10 + z } }", "77"},
		{"letrec from = \\n. Cons n (from (n + 1)) in letrec at = \\i. \\l. case l of { Cons x y -> case i == 0 of { True -> x | False -> at (i - 1) y } } in at 6 (from 3)", "9"},
		{"letrec len = \\l. case l of { Nil -> 0 | Cons x y -> 1 + len y } in len (Cons (1 / 0) (Cons 2 (Cons Nil Nil)))", "3"},
		{"letrec x = x + 1 in 3", "3"},
		{"let k = \\x. \\y. x in k 4 (1 / 0)", "4"},
		{"case 1 + Nil of { True -> 1 }", "!"},
		{"(\\f. f (f 2)) (\\x. x * x)", "16"},
		{"case (case 1 < 2 of { True -> P 1 2 | False -> Nil }) of { P x y -> x - y }", "-1"},
	} {
		x := program(t, c.x)
		got, steps, e := head.Run(x, mostFuel)
		if core.Text(got) != c.want || e != 0 {
			t.Errorf("%s: %s, %d, %d; want %s", c.x, told(got), steps, e, c.want)
		}
		checkSteps(t, x, steps, got)
	}
}

func TestRunsThatDoNotEnd(t *testing.T) {
	for _, s := range []string{"(\\x. x x) (\\x. x x)", "letrec x = x in x", "letrec f = \\n. f (0 * 1) in f 0", "1 + (\\x. x x) (\\x. x x)", "case (\\x. x x) (\\x. x x) of { A -> 1 }", "((\\x. x x) (\\x. x x)) 1"} {
		x := program(t, s)
		for _, fuel := range []int{0, 1, 2, 50, 999, mostFuel - 1, mostFuel} {
			checkError(t, x, fuel, fuel, errFuel)
		}
	}
}

func TestFuel(t *testing.T) {
	for _, x := range []api.Term{number(7), op("+", number(1), number(2)), con("A"), failed(), lam(variable(0)), app(lam(app(variable(0), variable(0))), lam(app(variable(0), variable(0))))} {
		for _, fuel := range []int{fewest, fewest + 1, -mostFuel, -2, -1, mostFuel + 1, mostFuel + 2, great, most} {
			checkError(t, x, fuel, 0, errArg)
		}
	}
	checkRun(t, number(7), 0, number(7), 0, 0)
	checkRun(t, number(7), mostFuel, number(7), 0, 0)
	checkError(t, op("+", number(1), number(2)), 0, 0, errFuel)
	checkRun(t, op("+", number(1), number(2)), 1, number(3), 1, 0)
}

// sums is x and 1, and 1, so many times: as many steps more.
func sums(n int, x api.Term) api.Term {
	for range n {
		x = op("+", x, number(1))
	}
	return x
}

// TestMostFuel has runs of as many steps as the most fuel, and of one more.
func TestMostFuel(t *testing.T) {
	x, n, steps := sums(95, number(1)), 96, 95
	// Each one is taken twice, by two steps.
	for range 10 {
		x, n, steps = app(lam(op("+", variable(0), variable(0))), x), 2*n, 2*steps+2
	}
	more := mostFuel - steps
	if more < 1 || more > 1000 {
		t.Fatal(steps)
	}
	checkSteps(t, x, steps, number(n))
	checkSteps(t, sums(more, x), mostFuel, number(n+more))
	checkError(t, sums(more+1, x), mostFuel, mostFuel, errFuel)
	checkError(t, sums(more+2, x), mostFuel, mostFuel, errFuel)
}

func TestTermsThatAreNotClosed(t *testing.T) {
	for _, s := range []string{"#0", `(\ #1)`, "(@ #0 1)", `(@ (\ 1) #0)`, "(A #3)", "(? (A) (A:0 #0))", "(? (A) (A:0 1) (B:2 #2))", "(+ 1 #0)", `(@ (\ #1) 1)`, `(\ (\ (\ #3)))`} {
		x := term(t, s)
		if !core.May(x, great) {
			t.Error("may not be", s)
		}
		for _, fuel := range []int{0, 1, mostFuel, -1, mostFuel + 1} {
			checkError(t, x, fuel, 0, errArg)
		}
	}
	checkRun(t, lam(variable(0)), 5, lam(variable(0)), 0, 0)
	checkRun(t, lam(lam(variable(1))), 5, lam(lam(variable(1))), 0, 0)
	checkRun(t, choice(con("A", number(1), number(2)), alt("A", 2, variable(1))), 5, number(1), 1, 0)
}

// of is a closed value of that size.
func of(size int) api.Term { return chain(size-1, number(1)) }

func TestTermsThatAreTooWide(t *testing.T) {
	for _, x := range []api.Term{of(mostTerm + 1), of(mostTerm + 2), of(levels), con("A", of(2500), of(2500)), con("A", of(4000), of(4000)), lam(app(lam(of(2499)), of(2499))), op("+", of(2500), of(2500)), choice(of(4997), alt("A", 0, number(1)), alt("B", 0, number(1)))} {
		if core.Size(x) <= mostTerm {
			t.Error("not wide", core.Size(x))
		}
		for _, fuel := range []int{0, 1, mostFuel} {
			checkError(t, x, fuel, 0, errWide)
		}
		// What is named first is told.
		for _, fuel := range []int{-1, mostFuel + 1} {
			checkError(t, x, fuel, 0, errArg)
		}
		checkError(t, app(x, variable(0)), 5, 0, errArg)
	}
	checkSteps(t, of(mostTerm), 0, of(mostTerm))
	checkSteps(t, con("A", of(2500), of(2499)), 0, con("A", of(2500), of(2499)))
	checkSteps(t, op("+", of(2500), of(2499)), 1, failed())
	// It would be less wide behind the first step.
	drop := lam(number(1))
	checkSteps(t, app(drop, of(4997)), 1, number(1))
	checkError(t, app(drop, of(4998)), mostFuel, 0, errWide)
	checkError(t, app(drop, of(4998)), 0, 0, errWide)
	// Parts of a function, and alternatives that are not taken, count too.
	checkSteps(t, choice(con("A"), alt("A", 0, number(1)), alt("B", 1, of(4995))), 1, number(1))
	checkError(t, choice(con("A"), alt("A", 0, number(1)), alt("B", 1, of(4996))), mostFuel, 0, errWide)
}

func TestTermsThatBecomeTooWide(t *testing.T) {
	twice := func(n int) api.Term { return app(lam(con("P", variable(0), variable(0))), of(n)) }
	checkSteps(t, twice(2499), 1, con("P", of(2499), of(2499)))
	checkError(t, twice(2500), 0, 0, errFuel)
	for _, fuel := range []int{1, 2, mostFuel} {
		checkError(t, twice(2500), fuel, 1, errWide)
		// Of what is too wide, and out of fuel, the first one is told.
		checkError(t, app(lam(op("+", variable(0), variable(0))), of(2500)), fuel, 1, errWide)
		checkError(t, app(lam(op("+", variable(0), variable(0))), lam(of(2499))), fuel, 1, errWide)
	}
	checkSteps(t, app(lam(op("+", variable(0), variable(0))), of(2499)), 2, failed())
	// What stands around it counts.
	checkSteps(t, app(twice(1000), of(2998)), 2, failed())
	checkError(t, app(twice(1000), of(2999)), mostFuel, 1, errWide)
	checkSteps(t, choice(twice(1000), alt("P", 2, of(1000)), alt("Q", 0, of(1996))), 2, of(1000))
	checkError(t, choice(twice(1000), alt("P", 2, of(1000)), alt("Q", 0, of(1997))), mostFuel, 1, errWide)
	checkSteps(t, op("+", number(1), app(lam(twice(1000)), of(2000))), 3, failed())
	checkSteps(t, op("+", twice(1000), of(2998)), 2, failed())
	checkError(t, op("+", twice(1000), of(2999)), mostFuel, 1, errWide)
	checkSteps(t, op("+", op("+", number(1), number(2)), app(lam(of(2990)), of(2000))), 3, failed())
	// What is dropped leaves room.
	room := app(lam(app(lam(con("P", variable(0), variable(0), variable(0))), of(1600))), of(3000))
	checkSteps(t, room, 2, con("P", of(1600), of(1600), of(1600)))
	// An alternative's parts.
	spread := func(n int) api.Term {
		return choice(con("A", of(n), of(10)), alt("A", 2, con("P", variable(1), variable(1), variable(1))))
	}
	checkSteps(t, spread(1666), 1, con("P", of(1666), of(1666), of(1666)))
	checkError(t, spread(1667), mostFuel, 1, errWide)
	// Very much wider at once.
	x := variable(0)
	for range 1200 {
		x = con("P", x, variable(0))
	}
	checkError(t, app(lam(x), of(2500)), mostFuel, 1, errWide)
	checkError(t, app(lam(x), of(2500)), 0, 0, errFuel)
	// Always wider.
	grow := lam(app(app(variable(0), variable(0)), number(1)))
	checkError(t, app(grow, grow), mostFuel, (mostTerm-core.Size(app(grow, grow)))/2+1, errWide)
}

// P9.2, held against steps one behind the other, and against a machine that puts nothing for variables.

func readRun(x api.Term, fuel int) (api.Term, int, api.Errno) {
	for steps := 0; ; steps++ {
		if core.Size(x) > mostTerm {
			return api.Term{}, steps, errWide
		}
		next, what := head.Step(x)
		if what == none {
			return x, steps, 0
		}
		if steps == fuel {
			return api.Term{}, steps, errFuel
		}
		x = next
	}
}

// held is a term, and what its variables stand for.
type held struct {
	x    api.Term
	vars *bound
}

type bound struct {
	held
	further *bound
}

func (h held) at(n int) held {
	b := h.vars
	for range n {
		b = b.further
	}
	return b.held
}

func (h held) binding(l ...held) *bound {
	b := h.vars
	for _, x := range l {
		b = &bound{x, b}
	}
	return b
}

// whole is the term of h, that is within so many binders of its own.
func (h held) whole(own int) api.Term {
	x := h.x
	x.L = nil
	switch h.x.Kind {
	case 1:
		if x.N < own {
			return x
		}
		return h.at(x.N - own).whole(0)
	case 2:
		own++
	case 6:
		own += x.N
	}
	for _, p := range h.x.L {
		x.L = append(x.L, held{p, h.vars}.whole(own))
	}
	return x
}

// machine does so many steps, no more.
type machine struct{ steps, fuel int }

// step tells if one may be done.
func (m *machine) step() bool {
	if m.steps == m.fuel {
		return false
	}
	m.steps++
	return true
}

// run tells what h comes to, and if there was fuel for it.
func (m *machine) run(h held) (held, bool) {
	for {
		part := func(i int) held { return held{h.x.L[i], h.vars} }
		switch h.x.Kind {
		case 1:
			h = h.at(h.x.N)
			continue
		case 2, 4, 7, 9:
			return h, true
		}
		a, is := m.run(part(0))
		if !is {
			return h, false
		}
		var b held
		if h.x.Kind == 8 && a.x.Kind == 7 {
			if b, is = m.run(part(1)); !is {
				return h, false
			}
		}
		if !m.step() {
			return h, false
		}
		switch {
		case h.x.Kind == 3 && a.x.Kind == 2:
			h = held{a.x.L[0], a.binding(part(1))}
		case h.x.Kind == 5 && a.x.Kind == 4:
			h = h.taken(a)
		case h.x.Kind == 8 && a.x.Kind == 7 && b.x.Kind == 7:
			x, _ := reckoned(h.x.Name, a.x.N, b.x.N)
			h = held{x: x}
		default:
			h = held{x: failed()}
		}
	}
}

// taken is the alternative of h for the constructor a.
func (h held) taken(a held) held {
	for _, p := range h.x.L[1:] {
		if p.Name == a.x.Name && p.N == len(a.x.L) {
			var l []held
			for _, x := range a.x.L {
				l = append(l, held{x, a.vars})
			}
			return held{p.L[0], h.binding(l...)}
		}
	}
	return held{x: failed()}
}

// checkRunRead asks for the run of x, held against both, and tells its error.
func checkRunRead(t *testing.T, x api.Term, fuel int) api.Errno {
	t.Helper()
	want, steps, e := readRun(x, fuel)
	checkRun(t, x, fuel, want, steps, e)
	m := machine{fuel: fuel}
	h, is := m.run(held{x: x})
	switch {
	case e == errWide: // the machine knows no sizes
	case !is:
		checkError(t, x, fuel, fuel, errFuel)
	default:
		checkRun(t, x, fuel, h.whole(0), m.steps, 0)
	}
	return e
}

func TestRunsOfTermsThatAreClosed(t *testing.T) {
	t.Parallel()
	r := rand.New(rand.NewSource(5))
	steps := 0
	for range 20000 {
		x := likely(r, r.Intn(7), 0)
		if checkRunRead(t, x, pick(r, 0, 1, 2, 3, 5, 10, 100)) == 0 {
			_, n, _ := head.Run(x, mostFuel)
			steps = max(steps, n)
		}
	}
	if steps < 10 {
		t.Error("all runs are short", steps)
	}
}

// looping is a closed term that goes round, most often, by functions that take themselves.
func looping(r *rand.Rand) api.Term {
	f := lam(lam(likely(r, 2+r.Intn(4), 2)))
	again := app(variable(1), variable(1))
	f.L[0].L[0] = pick(r,
		app(again, f.L[0].L[0]),
		choice(op("<", variable(0), number(r.Intn(20))), alt("True", 0, app(again, op("+", variable(0), number(1)))), alt("False", 0, f.L[0].L[0])),
		op(pick(r, signs()...), f.L[0].L[0], app(again, number(2))),
		con("A", f.L[0].L[0], app(again, variable(0))),
	)
	return app(app(f, copied(f)), likely(r, r.Intn(3), 0))
}

func TestRunsOfTermsThatGoRound(t *testing.T) {
	t.Parallel()
	r := rand.New(rand.NewSource(6))
	seen := map[api.Errno]int{}
	for range 2000 {
		seen[checkRunRead(t, looping(r), r.Intn(150))]++
	}
	if seen[0] < 200 || seen[errFuel] < 200 {
		t.Error("few of some", seen)
	}
}

// widen puts values of many parts in the places of some numbers.
func widen(r *rand.Rand, x *api.Term) {
	if x.Kind == 7 && r.Intn(2) == 0 {
		*x = of(1 + r.Intn(1500))
		return
	}
	for i := range x.L {
		widen(r, &x.L[i])
	}
}

func TestRunsOfTermsThatAreWide(t *testing.T) {
	t.Parallel()
	r := rand.New(rand.NewSource(7))
	seen := map[api.Errno]int{}
	for range 2000 {
		x := likely(r, 2+r.Intn(4), 0)
		widen(r, &x)
		if core.Size(x) > mostTerm+100 {
			continue
		}
		_, steps, _ := readRun(x, mostFuel)
		if steps > 0 {
			seen[checkRunRead(t, x, pick(r, steps-1, steps, steps+5))]++
		}
	}
	if seen[0] < 100 || seen[errFuel] < 100 || seen[errWide] < 30 {
		t.Error("few of some", seen)
	}
}

// P9.3.

func TestWhatIsClosedStaysClosed(t *testing.T) {
	t.Parallel()
	r := rand.New(rand.NewSource(8))
	for range 10000 {
		free := r.Intn(3)
		x := likely(r, r.Intn(6), free)
		for what := beta; what != none && core.Size(x) < 2000; {
			if !core.May(x, free) {
				t.Fatal("may not be", told(x), free)
			}
			var y api.Term
			y, what = head.Step(x)
			isDone := x.Kind == 2 || x.Kind == 4 || x.Kind == 7 || x.Kind == 9
			if isDone && what != none || !isDone && free == 0 && what == none {
				t.Errorf("Step(%s): %d", told(x), what)
			}
			if what == beta && core.Same(x, y) {
				break // it goes round
			}
			x = y
		}
	}
}

func TestWhatRunsComeTo(t *testing.T) {
	t.Parallel()
	r := rand.New(rand.NewSource(9))
	kinds := map[int]int{}
	for range 10000 {
		x, _, e := head.Run(likely(r, r.Intn(7), 0), 200)
		if e != 0 {
			continue
		}
		kinds[x.Kind]++
		checkNoStep(t, x)
		if !core.May(x, 0) {
			t.Error("is not closed", told(x))
		}
		checkRun(t, x, 0, x, 0, 0)
	}
	if len(kinds) != 4 || min(kinds[2], kinds[4], kinds[7], kinds[9]) < 100 {
		t.Error("few of some, or others", kinds)
	}
}

// P1, and the rules: every call ends, none panics; nothing is changed, shared or kept.

func checkDeep(t *testing.T, x, want api.Term, what int) {
	t.Helper()
	got, did := head.Step(x)
	if did != what || !core.Same(got, want) {
		t.Errorf("Step(%s): %d, %s; want %d, %s", told(x), did, told(got), what, told(want))
	}
}

func TestDeepTerms(t *testing.T) {
	t.Parallel()
	one := number(1)
	arounds := map[string]func(x api.Term) api.Term{
		"applied":  func(x api.Term) api.Term { return app(x, one) },
		"looked":   func(x api.Term) api.Term { return choice(x, alt("A", 1, variable(0))) },
		"left":     func(x api.Term) api.Term { return op("+", x, one) },
		"right":    func(x api.Term) api.Term { return op("+", one, x) },
		"function": lam,
		"part":     func(x api.Term) api.Term { return con("A", x) },
		"argument": func(x api.Term) api.Term { return app(variable(0), x) },
	}
	for name, f := range arounds {
		deep := func(x api.Term) api.Term {
			for range levels - 3 {
				x = f(x)
			}
			return x
		}
		x, want, what := deep(op("*", number(6), number(7))), deep(number(42)), oper
		if name == "function" || name == "part" || name == "argument" {
			want, what = x, none
		}
		checkDeep(t, x, want, what)
		checkDeep(t, deep(variable(0)), deep(variable(0)), none)
		checkDeep(t, app(lam(variable(0)), deep(one)), deep(one), beta)
		if name != "argument" {
			checkError(t, deep(one), mostFuel, 0, errWide)
		}
		// One that may not be, far within.
		checkDeep(t, deep(op("%", one, one)), deep(op("%", one, one)), none)
		checkError(t, deep(op("%", one, one)), mostFuel, 0, errArg)
	}
}

func TestWideTerms(t *testing.T) {
	t.Parallel()
	x, y := variable(0), api.Term{Kind: 3}
	for range 10000 {
		x = con("A", x, variable(0), variable(0), variable(0), variable(0), variable(0), variable(0), variable(0))
	}
	checkDeep(t, app(lam(x), number(3)), subst.Put(x, 0, number(3)), beta)
	y.L = slices.Repeat([]api.Term{number(1)}, 200000)
	checkDeep(t, y, y, none)
	checkError(t, y, 1, 0, errArg)
	long := strings.Repeat("A", 200000)
	checkDeep(t, app(lam(con(long)), number(1)), app(lam(con(long)), number(1)), none)
	checkError(t, con(long), 1, 0, errArg)
}

// roomy is x, each of whose lists has room behind it, that has something.
func roomy(x api.Term) api.Term {
	l := []api.Term{}
	for _, p := range x.L {
		l = append(l, roomy(p))
	}
	x.L = append(l, number(77), failed())[:len(l)]
	return x
}

func checkRoom(t *testing.T, x api.Term) {
	t.Helper()
	if behind := x.L[len(x.L) : len(x.L)+2]; !equal(behind[0], number(77)) || !equal(behind[1], failed()) {
		t.Errorf("behind a list of %s something was changed: %s, %s", told(x), told(behind[0]), told(behind[1]))
	}
	for _, p := range x.L {
		checkRoom(t, p)
	}
}

// memory is where the lists and the names of x stand.
func memory(x api.Term) (lists, names []unsafe.Pointer) {
	if x.Name != "" {
		names = append(names, unsafe.Pointer(unsafe.StringData(x.Name)))
	}
	if cap(x.L) > 0 {
		lists = append(lists, unsafe.Pointer(unsafe.SliceData(x.L)))
	}
	for _, p := range x.L {
		l, n := memory(p)
		lists, names = append(lists, l...), append(names, n...)
	}
	return lists, names
}

// checkApart asks that no two lists of the answer are one, and that it shares neither lists nor names with x.
func checkApart(t *testing.T, answer, x api.Term) {
	t.Helper()
	seen := map[unsafe.Pointer]bool{}
	lists, names := memory(x)
	for _, p := range append(lists, names...) {
		seen[p] = true
	}
	lists, names = memory(answer)
	for _, p := range names {
		if seen[p] {
			t.Errorf("%s: %s shares a name", told(x), told(answer))
		}
	}
	for _, p := range lists {
		if seen[p] {
			t.Errorf("%s: %s shares a list", told(x), told(answer))
		}
		seen[p] = true
	}
}

// fresh has its names in memory of its own, so that no answer has them by chance.
func fresh(x api.Term) api.Term { return roomy(copied(x)) }

func TestArgumentsAreLeft(t *testing.T) {
	t.Parallel()
	r := rand.New(rand.NewSource(10))
	for i := range 5000 {
		want := likely(r, r.Intn(6), r.Intn(3)*r.Intn(2))
		if i%4 == 0 {
			want = wild(r, r.Intn(4))
		}
		x := fresh(want)
		y, _ := head.Step(x)
		checkApart(t, y, x)
		y, _, _ = head.Run(x, r.Intn(50))
		checkApart(t, y, x)
		if !equal(x, want) {
			t.Errorf("%s was changed: %s", told(want), told(x))
		}
		checkRoom(t, x)
	}
}

func TestAnswersShareNothing(t *testing.T) {
	for _, s := range []string{
		`(@ (\ (P #0 #0)) (Q 1 2))`, "(? (A (Q 1)) (A:1 (P #0 #0)))", "(? (A (Q 1)) (A:1 #0))", `(@ (\ #0) (P 1))`, `(@ (\ (P 1)) 2)`,
		`(@ (@ (\ (@ #0 #0)) (\ (\ (P #0 #1)))) (Q 1))`, "(? (@ 1 2) (A:1 (P #0)))", "(P 1)", "(@ #0 (P 1))", "(+ #0 (P 1))", "(% (P 1) 2)",
	} {
		r := reader{s}
		x := fresh(r.term())
		y, _ := head.Step(x)
		checkApart(t, y, x)
		z, _, _ := head.Run(x, 100)
		checkApart(t, z, x)
		checkApart(t, z, y)
		again, _ := head.Step(x)
		checkApart(t, again, y)
	}
}

// scratch writes into all lists of x.
func scratch(x *api.Term) {
	for i := range x.L {
		scratch(&x.L[i])
	}
	*x = number(-99)
}

func TestNothingIsKept(t *testing.T) {
	r := rand.New(rand.NewSource(11))
	for range 1000 {
		x := likely(r, r.Intn(6), 0)
		for range 2 {
			checkRead(t, x)
			checkRunRead(t, x, 40)
			y, _ := head.Step(x)
			scratch(&y)
			y, _, _ = head.Run(x, 40)
			scratch(&y)
			head.Run(lam(x), mostFuel+1)
		}
	}
}

// emptied has an empty list wherever x has none.
func emptied(x api.Term) api.Term {
	l := []api.Term{}
	for _, p := range x.L {
		l = append(l, emptied(p))
	}
	x.L = l
	return x
}

func TestEmptyListsAndNilOnes(t *testing.T) {
	t.Parallel()
	r := rand.New(rand.NewSource(12))
	for range 3000 {
		x := likely(r, r.Intn(6), 0)
		want, what := head.Step(x)
		checkStep(t, emptied(x), want, what)
		want, steps, e := head.Run(x, 40)
		checkRun(t, emptied(x), 40, want, steps, e)
	}
	for kind := -1; kind < 11; kind++ {
		checkNoStep(t, api.Term{Kind: kind, L: []api.Term{}})
		checkNoStep(t, api.Term{Kind: kind, L: make([]api.Term, 0, 4)})
	}
}

func TestCallsAtOneTime(t *testing.T) {
	r := rand.New(rand.NewSource(13))
	var all []api.Term
	for range 50 {
		all = append(all, likely(r, 5, 0))
	}
	var wait sync.WaitGroup
	for range 8 {
		wait.Go(func() {
			for _, x := range all {
				checkRead(t, x)
				checkRunRead(t, x, 50)
			}
		})
	}
	wait.Wait()
}
