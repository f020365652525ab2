package core_test

import (
	"fmt"
	"math"
	"math/rand"
	"reflect"
	"slices"
	"strconv"
	"strings"
	"sync"
	"testing"

	"gossamer/api"
	"gossamer/core"
)

const (
	con16     = "ABCDEFGHIJKLMNOP"
	levels    = 1 << 16
	great     = 1 << 62     // free variables, more than any term here needs
	never     = math.MaxInt // what a term needs that may not be, however many free variables there are
	fewest    = math.MinInt // the least number
	most      = math.MaxInt // the greatest number
	leastText = "-9223372036854775808"
	mostText  = "9223372036854775807"
)

// Kinds are written as numbers: the chapter tells them so.

func variable(n int) api.Term              { return api.Term{Kind: 1, N: n} }
func lam(b api.Term) api.Term              { return api.Term{Kind: 2, L: []api.Term{b}} }
func app(f, a api.Term) api.Term           { return api.Term{Kind: 3, L: []api.Term{f, a}} }
func con(s string, l ...api.Term) api.Term { return api.Term{Kind: 4, Name: s, L: l} }
func number(n int) api.Term                { return api.Term{Kind: 7, N: n} }
func op(s string, a, b api.Term) api.Term  { return api.Term{Kind: 8, Name: s, L: []api.Term{a, b}} }
func failed() api.Term                     { return api.Term{Kind: 9} }

func choice(x api.Term, alts ...api.Term) api.Term {
	return api.Term{Kind: 5, L: append([]api.Term{x}, alts...)}
}

func alt(s string, n int, b api.Term) api.Term {
	return api.Term{Kind: 6, Name: s, N: n, L: []api.Term{b}}
}

func many(n int, p api.Term) []api.Term { return slices.Repeat([]api.Term{p}, n) }

// alts are that many alternatives of unlike names.
func alts(n int, body api.Term) []api.Term {
	var l []api.Term
	for i := range n {
		l = append(l, alt("A"+strconv.Itoa(i), 0, body))
	}
	return l
}

// sample is a term that may be, how many free variables it needs, and its text.
type sample struct {
	x     api.Term
	needs int
	text  string
}

// ordinary has a term of each kind, CoreAlt within a CoreCase.
func ordinary() map[string]sample {
	one := number(1)
	half := lam(app(variable(1), app(variable(0), variable(0))))
	return map[string]sample{
		"variable":  {variable(0), 1, "#0"},
		"further":   {variable(12), 13, "#12"},
		"function":  {lam(variable(0)), 0, `(\ #0)`},
		"open":      {lam(variable(1)), 1, `(\ #1)`},
		"applied":   {app(variable(0), variable(3)), 4, "(@ #0 #3)"},
		"loop":      {lam(app(half, half)), 0, `(\ (@ (\ (@ #1 (@ #0 #0))) (\ (@ #1 (@ #0 #0)))))`},
		"let":       {app(lam(op("*", variable(0), variable(1))), variable(1)), 2, `(@ (\ (* #0 #1)) #1)`},
		"con":       {con("Nil"), 0, "(Nil)"},
		"cons":      {con("Cons", one, con("Cons", variable(0), con("Nil"))), 1, "(Cons 1 (Cons #0 (Nil)))"},
		"case":      {choice(variable(0), alt("Nil", 0, number(0)), alt("Cons", 2, variable(1))), 1, "(? #0 (Nil:0 0) (Cons:2 #1))"},
		"number":    {number(7), 0, "7"},
		"below":     {number(-40), 0, "-40"},
		"operator":  {op("==", op("-", variable(0), one), op("<", variable(1), number(2))), 2, "(== (- #0 1) (< #1 2))"},
		"failed":    {failed(), 0, "!"},
		"nested":    {choice(choice(one, alt("A", 1, variable(0))), alt("B", 1, choice(variable(1), alt("A", 1, lam(variable(3)))))), 1, `(? (? 1 (A:1 #0)) (B:1 (? #1 (A:1 (\ #3)))))`},
		"eight":     {con("P", many(8, variable(1))...), 2, "(P #1 #1 #1 #1 #1 #1 #1 #1)"},
		"of eight":  {choice(one, alt("P", 8, op("/", variable(7), variable(9)))), 2, "(? 1 (P:8 (/ #7 #9)))"},
		"functions": {lam(lam(lam(con(con16, variable(2), variable(0))))), 0, `(\ (\ (\ (ABCDEFGHIJKLMNOP #2 #0))))`},
	}
}

// told is x as a failure tells it: no more than its first bytes.
func told(x any) string {
	s := fmt.Sprintf("%+q", fmt.Sprint(x))
	if len(s) > 400 {
		s = s[:400] + ".."
	}
	return s
}

func checkMay(t *testing.T, what string, x api.Term, free int, want bool) {
	t.Helper()
	if core.May(x, free) != want {
		t.Errorf("%s: May(%s, %d): %v", what, told(x), free, !want)
	}
}

// checkNeeds asks for x with as many free variables as it needs, with fewer, and with more.
func checkNeeds(t *testing.T, what string, x api.Term, needs int) {
	t.Helper()
	for _, free := range []int{fewest, -great, -2, -1, 0, 1, 2, 3, 8, 9, 10, needs - 1, needs, 100000, great} {
		// Of never so many the last ones would be as many as it needs.
		if free < never-1 {
			checkMay(t, what, x, free, free >= max(needs, 0))
		}
	}
}

// less is how many free variables a term needs within so many binders.
func less(needs, binders int) int {
	if needs == never {
		return never
	}
	return max(needs-binders, 0)
}

// checkIn asks for x by itself, and where it is a part of each kind of term.
func checkIn(t *testing.T, what string, x api.Term, needs int) {
	t.Helper()
	one := number(1)
	checkNeeds(t, what, x, needs)
	for place, in := range map[string]api.Term{
		" on the left of an app":  app(x, one),
		" on the right of an app": app(one, x),
		" in a con":               con("A", x),
		" first in a con":         con("A", append([]api.Term{x}, many(7, one)...)...),
		" last in a con":          con("A", append(many(7, one), x)...),
		" in a case":              choice(x, alt("A", 3, one)),
		" in an alternative":      choice(one, alt("A", 0, x)),
		" in the first of 8":      choice(one, append([]api.Term{alt("B", 0, x)}, alts(7, one)...)...),
		" in the last of 8":       choice(one, append(alts(7, one), alt("B", 0, x))...),
		" behind one that binds":  choice(one, alt("A", 8, one), alt("B", 0, x)),
		" on the left of a sum":   op("+", x, one),
		" on the right of a sum":  op("+", one, x),
		" far in":                 app(con("A", op("<", one, choice(one, alt("A", 0, app(x, one))))), one),
		" beside a function":      app(lam(one), x),
	} {
		checkNeeds(t, what+place, in, needs)
	}
	checkNeeds(t, what+" in a function", lam(x), less(needs, 1))
	checkNeeds(t, what+" in two functions", lam(lam(x)), less(needs, 2))
	for n := range 9 {
		checkNeeds(t, what+" in an alternative that binds", choice(one, alt("A", n, x)), less(needs, n))
		checkNeeds(t, what+" in the last one that binds", choice(one, alt("A", 1, one), alt("B", n, x)), less(needs, n))
	}
	checkNeeds(t, what+" in all that binds", lam(choice(one, alt("A", 2, app(one, lam(x))))), less(needs, 4))
	checkNeeds(t, what+" ahead of one that may not be", app(x, api.Term{}), never)
	checkNeeds(t, what+" behind one that may not be", app(api.Term{}, x), never)
}

// P6.1, May: how many variables are free.

func TestOrdinaryTermsMayBe(t *testing.T) {
	for what, s := range ordinary() {
		checkIn(t, what, s.x, s.needs)
	}
}

func TestVariables(t *testing.T) {
	for n := range 20 {
		checkIn(t, "variable", variable(n), n+1)
	}
	for _, n := range []int{fewest, fewest + 1, -great, -9, -2, -1} {
		checkIn(t, "below 0", variable(n), never)
		checkMay(t, "below 0", variable(n), most, false)
	}
	checkNeeds(t, "great", variable(great-1), great)
	checkNeeds(t, "greater", variable(great), great+1)
	checkMay(t, "greatest but one", variable(most-1), most, true)
	checkMay(t, "greatest but one", variable(most-1), most-1, false)
	checkMay(t, "greatest", variable(most), most, false)
	checkMay(t, "greatest", variable(most), most-1, false)
	checkMay(t, "greatest", variable(most), -1, false)
	checkMay(t, "least of greatest", variable(0), most, true)
}

// What is free is told for all parts: the one that needs most tells.
func TestEachPartNeedsItsOwn(t *testing.T) {
	v := variable
	checkNeeds(t, "applied", app(v(2), v(5)), 6)
	checkNeeds(t, "applied", app(v(5), v(2)), 6)
	checkNeeds(t, "con", con("A", v(0), v(7), v(3)), 8)
	checkNeeds(t, "case", choice(v(3), alt("A", 2, v(3)), alt("B", 0, v(1))), 4)
	checkNeeds(t, "case", choice(v(0), alt("A", 2, v(4)), alt("B", 1, v(2))), 3)
	checkNeeds(t, "case", choice(v(0), alt("A", 2, v(4)), alt("B", 0, v(4))), 5)
	checkNeeds(t, "function beside a variable", app(lam(v(1)), v(1)), 2)
	checkNeeds(t, "function beside a variable", app(v(0), lam(v(0))), 1)
	// What is looked at is not within the variables of the alternatives.
	checkNeeds(t, "looked at", choice(v(7), alt("A", 8, v(7))), 8)
}

func TestManyBinders(t *testing.T) {
	for n := range 40 {
		for m := range 40 {
			checkNeeds(t, "functions", chain(n, variable(m)), max(m+1-n, 0))
		}
		x := variable(n)
		for range 3 {
			x = choice(number(1), alt("A", 8, x))
		}
		checkNeeds(t, "alternatives", x, max(n+1-24, 0))
	}
}

func TestNumbersOfFreeVariablesBelowZero(t *testing.T) {
	for _, free := range []int{fewest, -great, -100, -9, -2, -1} {
		for what, s := range ordinary() {
			checkMay(t, what, s.x, free, false)
			checkMay(t, what+" within functions", chain(200, s.x), free, false)
			checkMay(t, what+" within alternatives", choice(failed(), alt("A", 8, s.x)), free, false)
		}
	}
}

// P6.1, May: names.

var (
	goodCons  = []string{"A", "Z", "Cons", "Nil", "True", "False", "X1y2", "LET", "Let", "Of", con16, "A234567890123456"}
	goodSigns = []string{"+", "-", "*", "/", "<", "=="}
	noNames   = []string{
		"x", "z", "a0", "camelCase", "lET", "abcdefghijklmnop",
		"let", "letrec", "in", "case", "of",
		"->", "\\", ".", "(", ")", "=", "{", "}", "|", ">", "<=", ">=", "!=", "%", "++", "--", "===", "= =", "+ ", " +", " ==", "==\n",
		"@", "?", "#", "!", ":", "A:", "A:1", "#0", "(A)",
		"0", "1", "12", "-1", "0x", "1a", "1A", "01",
		" ", "\n", "\t", " x", "x ", "x y", "xY z", " A", "A ", "A\n", "\tA", "A B", "x.", "A.", "A+", "+A",
		"_", "_A", "A_B", "A'", "A-B", "é", "Aé", "É", "Λ", "\x00", "A\x00", "\x00A", "\xff", "A\xff", "１", "Ａ",
		con16 + "Q", "A2345678901234567", strings.Repeat("a", 100000), strings.Repeat("A", 100000), strings.Repeat("A ", 100000), strings.Repeat("+", 100000),
		con16 + " ", " " + con16,
	}
)

// named are terms of each kind, whose whole one, or whose alternative, has that Name.
func named(s string) map[int]api.Term {
	one := number(1)
	return map[int]api.Term{
		1: {Kind: 1, Name: s},
		2: {Kind: 2, Name: s, L: many(1, one)},
		3: {Kind: 3, Name: s, L: many(2, one)},
		4: {Kind: 4, Name: s},
		5: {Kind: 5, Name: s, L: []api.Term{one, alt("B7", 0, one)}},
		6: choice(one, alt("B7", 0, one), alt(s, 0, one)),
		7: {Kind: 7, Name: s},
		8: {Kind: 8, Name: s, L: many(2, one)},
		9: {Kind: 9, Name: s},
	}
}

func TestNames(t *testing.T) {
	check := func(names []string, kinds ...int) {
		t.Helper()
		for _, s := range names {
			for kind, x := range named(s) {
				may := slices.Contains(kinds, kind)
				checkMay(t, "names", x, 1, may)
				checkMay(t, "names in a function", lam(x), 0, may)
				checkMay(t, "names in an alternative", choice(x, alt("A", 1, x)), great, may)
			}
		}
	}
	check(goodCons, 4, 6)
	check(goodSigns, 8)
	check([]string{""}, 1, 2, 3, 5, 7, 9)
	check(noNames)
}

// P6.1, May: N.

func TestNumbers(t *testing.T) {
	for _, n := range []int{fewest, fewest + 1, -great, -9, -8, -1, 0, 1, 2, 7, 8, 9, 10, 255, 256, 1e18 - 1, 1e18, great, most - 1, most} {
		checkIn(t, "number", number(n), 0)
		for what, s := range ordinary() {
			// Of variables and numbers N is told.
			if s.x.Kind == 1 || s.x.Kind == 7 {
				continue
			}
			s.x.N = n
			if n != 0 {
				s.needs = never
			}
			checkIn(t, what, s.x, s.needs)
		}
		checkNeeds(t, "operator", api.Term{Kind: 8, Name: "+", N: n, L: many(2, number(1))}, map[bool]int{true: 0, false: never}[n == 0])
		needs := never
		if 0 <= n && n <= 8 {
			needs = 8 - n
		}
		checkNeeds(t, "alternative", choice(number(1), alt("A", n, variable(7))), needs)
		checkNeeds(t, "last alternative", choice(number(1), alt("B", 8, number(1)), alt("A", n, variable(7))), needs)
	}
}

// P6.1, May: parts.

// needed is 0, or never.
func needed(may bool) int {
	if may {
		return 0
	}
	return never
}

func TestNumbersOfParts(t *testing.T) {
	one := number(1)
	for n := range 30 {
		l := many(n, one)
		if n == 0 {
			checkIn(t, "variable", api.Term{Kind: 1}, 1)
		} else {
			checkIn(t, "variable", api.Term{Kind: 1, L: l}, never)
		}
		checkIn(t, "function", api.Term{Kind: 2, L: l}, needed(n == 1))
		checkIn(t, "applied", api.Term{Kind: 3, L: l}, needed(n == 2))
		checkIn(t, "con", api.Term{Kind: 4, Name: "A", L: l}, needed(n <= 8))
		checkIn(t, "case", choice(one, alts(n, one)...), needed(1 <= n && n <= 8))
		for variables := range 9 {
			a := api.Term{Kind: 6, Name: "A", N: variables, L: l}
			checkNeeds(t, "alternative", choice(one, a), needed(n == 1))
			checkNeeds(t, "last alternative", choice(one, alt("B", 0, one), a), needed(n == 1))
		}
		checkIn(t, "number", api.Term{Kind: 7, L: l}, needed(n == 0))
		checkIn(t, "operator", api.Term{Kind: 8, Name: "+", L: l}, needed(n == 2))
		checkIn(t, "failed", api.Term{Kind: 9, L: l}, needed(n == 0))
	}
	checkIn(t, "case of nothing", api.Term{Kind: 5}, never)
}

func TestManyParts(t *testing.T) {
	one := number(1)
	same, other := many(100000, one), append([]api.Term{one}, alts(100000, one)...)
	for kind := range 10 {
		for _, name := range []string{"", "A", "+"} {
			for _, l := range [][]api.Term{same, other} {
				checkNeeds(t, "wide", api.Term{Kind: kind, Name: name, L: l}, never)
				checkNeeds(t, "wide within", choice(one, alt("A", 0, one), api.Term{Kind: kind, Name: name, L: l}), never)
			}
		}
	}
}

func TestEmptyListsAndNilOnes(t *testing.T) {
	none := []api.Term{}
	checkIn(t, "variable", api.Term{Kind: 1, L: none}, 1)
	checkIn(t, "function", api.Term{Kind: 2, L: none}, never)
	checkIn(t, "applied", api.Term{Kind: 3, L: none}, never)
	checkIn(t, "con", api.Term{Kind: 4, Name: "A", L: none}, 0)
	checkIn(t, "case", api.Term{Kind: 5, L: none}, never)
	checkNeeds(t, "alternative", choice(number(1), api.Term{Kind: 6, Name: "A", L: none}), never)
	checkNeeds(t, "alternative", choice(number(1), api.Term{Kind: 6, Name: "A"}), never)
	checkIn(t, "number", api.Term{Kind: 7, L: none}, 0)
	checkIn(t, "operator", api.Term{Kind: 8, Name: "+", L: none}, never)
	checkIn(t, "failed", api.Term{Kind: 9, L: none}, 0)
}

// P6.1, May: kinds, and where alternatives stand.

func TestWrongKinds(t *testing.T) {
	for _, kind := range []int{fewest, -1, 0, 10, 11, 256, 257, most} {
		checkIn(t, "no kind", api.Term{Kind: kind}, never)
		for what, s := range ordinary() {
			s.x.Kind = kind
			checkIn(t, "no kind of "+what, s.x, never)
		}
		checkNeeds(t, "no kind of an alternative", choice(number(1), api.Term{Kind: kind, Name: "A", L: many(1, number(1))}), never)
	}
	checkIn(t, "nothing", api.Term{}, never)
}

func TestAlternativesOutOfACase(t *testing.T) {
	one, a := number(1), alt("A", 0, number(1))
	for _, x := range []api.Term{a, alt("Cons", 2, variable(1)), alt("B", 8, one)} {
		checkIn(t, "alternative", x, never)
	}
	checkNeeds(t, "first", choice(a, alt("B", 0, one)), never)
	checkNeeds(t, "first and behind", choice(a, a), never)
	checkNeeds(t, "first and alone", choice(a), never)
	checkNeeds(t, "in an alternative", choice(one, alt("B", 0, a)), never)
	checkNeeds(t, "in each alternative", choice(one, alt("B", 0, a), alt("C", 0, a)), never)
	for n := range 9 {
		checkNeeds(t, "all that it has", con("A", many(n, a)...), needed(n == 0))
	}
}

func TestOthersWhereAlternativesStand(t *testing.T) {
	one := number(1)
	for what, s := range ordinary() {
		checkNeeds(t, what+" for the only one", choice(one, s.x), never)
		for n := 2; n <= 8; n++ {
			for i := range n {
				l := alts(n, one)
				l[i] = s.x
				checkNeeds(t, what+" for one of them", choice(one, l...), never)
			}
		}
	}
	checkNeeds(t, "none", choice(one, api.Term{}), never)
}

func TestAlternativesOfLikeNames(t *testing.T) {
	one := number(1)
	for n := 2; n <= 8; n++ {
		for i := range n {
			for j := range n {
				l := alts(n, one)
				l[i].Name = l[j].Name
				checkNeeds(t, "like", choice(one, l...), needed(i == j))
				l[i].N, l[j].N = 1, 2
				l[i].L = many(1, variable(0))
				checkNeeds(t, "like, of other numbers", choice(one, l...), needed(i == j))
			}
		}
	}
	// Nearly like, and like ones that are none of the same case's.
	checkNeeds(t, "nearly", choice(one, alt("A", 0, one), alt("AA", 0, one), alt("Aa", 0, one), alt("A0", 0, one), alt("AB", 0, one)), 0)
	inner := choice(one, alt("A", 0, con("A")), alt("B", 0, con("B", one)))
	checkIn(t, "within one another", choice(inner, alt("A", 0, inner), alt("B", 1, inner)), 0)
	checkIn(t, "within, wrong", choice(inner, alt("A", 0, inner), alt("B", 1, choice(inner, alt("A", 0, one), alt("A", 1, one)))), never)
}

// P6.1, at as many levels as there may be.

// chain is that many functions around x.
func chain(n int, x api.Term) api.Term {
	for range n {
		x = lam(x)
	}
	return x
}

// tower is terms of each kind around x, as many levels as are told, at least, and how many variables they bind.
func tower(n int, x api.Term) (y api.Term, bound int) {
	one := number(1)
	for range n / 7 {
		x = con("A", one, lam(app(op("+", choice(one, alt("B", 0, one), alt("C", 3, x)), one), one)))
		bound += 4
	}
	return x, bound
}

func TestDeepTermsMayBe(t *testing.T) {
	t.Parallel()
	checkMay(t, "deep", chain(levels-1, variable(levels-2)), 0, true)
	checkMay(t, "deep", chain(levels-1, variable(levels-1)), 0, false)
	checkMay(t, "deep", chain(levels-1, variable(levels-1)), 1, true)
	checkMay(t, "deep", chain(levels-1, variable(most)), 0, false)
	checkMay(t, "deep", chain(levels-1, variable(-1)), great, false)
	checkMay(t, "deep", chain(levels-1, alt("A", 0, number(1))), 0, false)
	x, bound := tower(levels, failed())
	checkMay(t, "tower", x, 0, true)
	x, _ = tower(levels, variable(bound-1))
	checkMay(t, "tower", x, 0, true)
	x, _ = tower(levels, variable(bound))
	checkMay(t, "tower", x, 0, false)
	checkMay(t, "tower", x, 1, true)
	x, _ = tower(levels, api.Term{})
	checkMay(t, "tower", x, 0, false)
}

func TestDeepTerms(t *testing.T) {
	t.Parallel()
	for _, x := range []api.Term{number(1), variable(-1), {}} {
		deep := chain(levels-1, x)
		if d, n := core.Depth(deep), core.Size(deep); d != levels || n != levels {
			t.Errorf("Depth %d, Size %d", d, n)
		}
		want := strings.Repeat(`(\ `, levels-1) + writing(x) + strings.Repeat(")", levels-1)
		if core.Text(deep) != want {
			t.Errorf("the text of %v, deep, is another one", x)
		}
	}
	x, _ := tower(levels, number(-1))
	y, _ := tower(levels, number(-1))
	z, _ := tower(levels, number(-2))
	if !core.Same(x, y) || core.Same(x, z) || core.Same(z, x) {
		t.Error("Same, of towers")
	}
	want := strings.Repeat(`(A 1 (\ (@ (+ (? 1 (B:0 1) (C:3 `, levels/7) + "-1" + strings.Repeat(")) 1) 1)))", levels/7)
	if core.Text(x) != want || core.Text(y) != want || core.Text(z) == want {
		t.Error("Text, of towers")
	}
	one := number(1)
	if !core.Same(chain(levels, one), chain(levels, one)) || core.Same(chain(levels, one), chain(levels-1, one)) {
		t.Error("Same, of chains")
	}
}

// P6.1, May, held against a reading that is made otherwise: from the parts on outwards, names byte by byte.

func isCon(s string) bool {
	if len(s) < 1 || len(s) > 16 || s[0] < 'A' || s[0] > 'Z' {
		return false
	}
	for _, c := range []byte(s) {
		if !strings.ContainsRune("abcdefghijklmnopqrstuvwxyzABCDEFGHIJKLMNOPQRSTUVWXYZ0123456789", rune(c)) {
			return false
		}
	}
	return true
}

// needsOf is how many free variables x needs, as a part of a case if it is an alternative.
func needsOf(x api.Term) int {
	needs := 0
	names := map[string]int{}
	for i, p := range x.L {
		n := needsOf(p)
		inCase := x.Kind == 5 && i > 0
		if inCase != (p.Kind == 6) || n == never {
			return never
		}
		if inCase {
			names[p.Name]++
		}
		needs = max(needs, n)
	}
	n, blank := len(x.L), x.Name == "" && x.N == 0
	may := false
	switch x.Kind {
	case 1:
		may = x.Name == "" && n == 0 && x.N >= 0 && x.N < never-1
		needs = x.N + 1
	case 2:
		may = blank && n == 1
		needs = max(needs-1, 0)
	case 3:
		may = blank && n == 2
	case 4:
		may = isCon(x.Name) && x.N == 0 && n < 9
	case 5:
		may = blank && n > 1 && n < 10 && len(names) == n-1
	case 6:
		may = isCon(x.Name) && n == 1 && x.N > -1 && x.N < 9
		needs = max(needs-x.N, 0)
	case 7:
		may = x.Name == "" && n == 0
	case 8:
		may = slices.Contains(goodSigns, x.Name) && x.N == 0 && n == 2
	case 9:
		may = blank && n == 0
	}
	if !may {
		return never
	}
	return needs
}

// needsWhole is how many free variables x needs, as a whole term.
func needsWhole(x api.Term) int {
	if x.Kind == 6 {
		return never
	}
	return needsOf(x)
}

func pick[T any](r *rand.Rand, l ...T) T { return l[r.Intn(len(l))] }

// likely is a term that may be, if there are free variables enough.
func likely(r *rand.Rand, deep int) api.Term {
	if deep <= 0 {
		return pick(r, variable(r.Intn(4)), variable(0), number(r.Intn(4)-1), con(pick(r, "A", "B")), failed())
	}
	part := func() api.Term { return likely(r, deep-1-r.Intn(2)) }
	switch r.Intn(7) {
	case 0, 1:
		return lam(part())
	case 2:
		return app(part(), part())
	case 3:
		x := con(pick(r, "A", "B"))
		for range r.Intn(4) {
			x.L = append(x.L, part())
		}
		return x
	case 4:
		return op(pick(r, goodSigns...), part(), part())
	}
	x := choice(part())
	for _, i := range r.Perm(3)[:1+r.Intn(3)] {
		x.L = append(x.L, alt(string("ABC"[i:i+1]), r.Intn(4), part()))
	}
	return x
}

// harm changes one thing of x, or of one of its parts.
func harm(r *rand.Rand, x *api.Term) {
	if len(x.L) > 0 && r.Intn(4) > 0 {
		harm(r, &x.L[r.Intn(len(x.L))])
		return
	}
	switch r.Intn(6) {
	case 0:
		x.Kind = r.Intn(12) - 1
	case 1:
		x.Name = pick(r, "", "x", "A", "B", "+", "1", "=", " A")
	case 2:
		x.N = pick(r, -1, 0, 1, 2, 3, 8, 9, fewest, most)
	case 3:
		if len(x.L) > 0 {
			x.L = x.L[:len(x.L)-1]
		}
	case 4:
		x.L = append(slices.Clip(x.L), pick(r, variable(0), number(1), alt("A", 1, number(1)), alt("C", 0, variable(0))))
	case 5:
		r.Shuffle(len(x.L), func(i, j int) { x.L[i], x.L[j] = x.L[j], x.L[i] })
	}
}

// checkHarmed asks for x with some free variables, and tells if it may be of any.
func checkHarmed(t *testing.T, x api.Term) bool {
	t.Helper()
	needs := needsWhole(x)
	for free := -1; free < 8; free++ {
		checkMay(t, "harmed", x, free, free >= max(needs, 0))
	}
	checkMay(t, "harmed", x, great, needs <= great)
	return needs <= great
}

func TestHarmedTerms(t *testing.T) {
	t.Parallel()
	r := rand.New(rand.NewSource(1))
	count := map[bool]int{}
	for range 30000 {
		x := likely(r, r.Intn(5))
		if !checkHarmed(t, x) {
			t.Errorf("%v may not be", x)
		}
		harm(r, &x)
		count[checkHarmed(t, x)]++
	}
	if count[true] < 3000 || count[false] < 3000 {
		t.Error("too few of a sort", count)
	}
}

// P6.1, Depth and Size.

func TestDepthAndSize(t *testing.T) {
	one := number(1)
	for _, c := range []struct {
		x           api.Term
		depth, size int
	}{
		{one, 1, 1},
		{variable(0), 1, 1},
		{failed(), 1, 1},
		{con("Nil"), 1, 1},
		{api.Term{Kind: 4, Name: "Nil", L: []api.Term{}}, 1, 1},
		{lam(one), 2, 2},
		{app(one, one), 2, 3},
		{app(lam(one), one), 3, 4},
		{app(one, lam(one)), 3, 4},
		{con("A", many(8, one)...), 2, 9},
		{con("A", one, lam(lam(one)), app(one, one)), 4, 8},
		{choice(one, alt("A", 0, one)), 3, 4},
		{choice(one, alt("A", 0, one), alt("B", 2, op("+", one, one))), 4, 8},
		{op("-", app(one, one), app(one, app(one, one))), 4, 9},
		// Of terms that may not be, too.
		{api.Term{}, 1, 1},
		{api.Term{Kind: -1, N: -5, L: many(3, api.Term{})}, 2, 4},
		{alt("A", 5, one), 2, 2},
		{api.Term{Kind: 1, N: most, Name: "?", L: []api.Term{lam(lam(api.Term{Kind: 99, N: most}))}}, 4, 4},
		{api.Term{Kind: 7, N: 40, L: many(2, one)}, 2, 3},
		{api.Term{Kind: 9, L: []api.Term{lam(one), one}}, 3, 4},
		{api.Term{L: many(100000, api.Term{L: many(1, one)})}, 3, 200001},
	} {
		if d, n := core.Depth(c.x), core.Size(c.x); d != c.depth || n != c.size {
			t.Errorf("%s: Depth %d, Size %d; want %d, %d", told(c.x), d, n, c.depth, c.size)
		}
	}
}

// measure is how deep x is, and how many parts of it there are, level by level.
func measure(x api.Term) (depth, size int) {
	for level := []api.Term{x}; len(level) > 0; depth++ {
		var next []api.Term
		for _, p := range level {
			next = append(next, p.L...)
		}
		size += len(level)
		level = next
	}
	return depth, size
}

func TestDepthAndSizeOfHarmedTerms(t *testing.T) {
	r := rand.New(rand.NewSource(2))
	for range 5000 {
		x := likely(r, r.Intn(6))
		harm(r, &x)
		depth, size := measure(x)
		if d, n := core.Depth(x), core.Size(x); d != depth || n != size {
			t.Errorf("%v: Depth %d, Size %d; want %d, %d", x, d, n, depth, size)
		}
	}
}

// P6.1, Same.

func checkSame(t *testing.T, a, b api.Term, want bool) {
	t.Helper()
	if core.Same(a, b) != want || core.Same(b, a) != want {
		t.Errorf("Same(%s, %s): %v, %v; want %v", told(a), told(b), core.Same(a, b), core.Same(b, a), want)
	}
}

// copied is x, of which no list is x's.
func copied(x api.Term) api.Term {
	l := make([]api.Term, 0, len(x.L))
	for _, p := range x.L {
		l = append(l, copied(p))
	}
	x.Name = strings.Clone(x.Name)
	x.L = l
	return x
}

func TestSame(t *testing.T) {
	for a, x := range ordinary() {
		checkSame(t, x.x, copied(x.x), true)
		for b, y := range ordinary() {
			checkSame(t, x.x, y.x, a == b)
		}
	}
}

func TestWhatIsOther(t *testing.T) {
	one, two := number(1), number(2)
	whole := api.Term{Kind: 4, Name: "A", N: 4, L: []api.Term{one, two}}
	for _, change := range []func(x *api.Term){
		func(x *api.Term) { x.Kind = 3 },
		func(x *api.Term) { x.Kind = 5 },
		func(x *api.Term) { x.Kind = -4 },
		func(x *api.Term) { x.Kind = 0 },
		func(x *api.Term) { x.Kind = 4 + 256 },
		func(x *api.Term) { x.Name = "" },
		func(x *api.Term) { x.Name = "a" },
		func(x *api.Term) { x.Name = "A " },
		func(x *api.Term) { x.Name = "AA" },
		func(x *api.Term) { x.N = 5 },
		func(x *api.Term) { x.N = -4 },
		func(x *api.Term) { x.N = 0 },
		func(x *api.Term) { x.N = 4 + great },
		func(x *api.Term) { x.L = nil },
		func(x *api.Term) { x.L = []api.Term{one} },
		func(x *api.Term) { x.L = []api.Term{two} },
		func(x *api.Term) { x.L = []api.Term{two, one} },
		func(x *api.Term) { x.L = []api.Term{one, one} },
		func(x *api.Term) { x.L = []api.Term{two, two} },
		func(x *api.Term) { x.L = []api.Term{one, two, two} },
		func(x *api.Term) { x.L = []api.Term{one, two, {}} },
		func(x *api.Term) { x.L = []api.Term{one, lam(two)} },
		func(x *api.Term) { x.L = []api.Term{one, {Kind: 7, N: 2, Name: "2"}} },
	} {
		other := whole
		change(&other)
		checkSame(t, whole, other, false)
		checkSame(t, lam(whole), lam(other), false)
		checkSame(t, app(one, whole), app(one, other), false)
		checkSame(t, app(whole, one), app(other, one), false)
		checkSame(t, con("A", one, whole, two), con("A", one, other, two), false)
		checkSame(t, choice(one, alt("A", 0, lam(whole))), choice(one, alt("A", 0, lam(other))), false)
	}
	checkSame(t, api.Term{}, api.Term{}, true)
	checkSame(t, api.Term{Kind: -1, N: fewest, Name: "\xff"}, api.Term{Kind: -1, N: fewest, Name: "\xff"}, true)
	checkSame(t, variable(0), variable(1), false)
	checkSame(t, number(0), variable(0), false)
	checkSame(t, number(-1), number(1), false)
	checkSame(t, failed(), failed(), true)
	// The names of what they bind tell nothing: there are none; how many there are tells.
	checkSame(t, choice(one, alt("A", 1, one)), choice(one, alt("A", 2, one)), false)
	checkSame(t, choice(one, alt("A", 1, one), alt("B", 1, one)), choice(one, alt("B", 1, one), alt("A", 1, one)), false)
}

func TestSameOfEmptyListsAndNilOnes(t *testing.T) {
	a, b, c := con("A"), con("A"), con("A")
	a.L, b.L, c.L = nil, []api.Term{}, make([]api.Term, 0, 9)
	checkSame(t, a, b, true)
	checkSame(t, a, c, true)
	checkSame(t, lam(a), lam(b), true)
	checkSame(t, api.Term{}, api.Term{L: b.L}, true)
}

// equal tells if nothing is other in a and in b, as the language tells it.
func equal(a, b api.Term) bool { return reflect.DeepEqual(copied(a), copied(b)) }

// few has few terms, that may be or not: two of them are the same often enough.
func few(r *rand.Rand, deep int) api.Term {
	x := api.Term{Kind: r.Intn(2), Name: pick(r, "", "", "x"), N: r.Intn(2)}
	for range r.Intn(3) {
		if deep > 0 {
			x.L = append(x.L, few(r, deep-1))
		}
	}
	return x
}

func TestSameJustIfNothingIsOther(t *testing.T) {
	t.Parallel()
	r := rand.New(rand.NewSource(3))
	count := map[bool]int{}
	check := func(a, b api.Term) {
		want := equal(a, b)
		count[want]++
		checkSame(t, a, b, want)
	}
	for range 20000 {
		check(few(r, r.Intn(3)), few(r, r.Intn(3)))
		a := likely(r, r.Intn(4))
		b := copied(a)
		check(a, b)
		harm(r, &b)
		check(a, b)
	}
	if count[true] < 5000 || count[false] < 5000 {
		t.Error("too few of a sort", count)
	}
}

// P6.2, Text.

func checkText(t *testing.T, x api.Term, want string) {
	t.Helper()
	if got := core.Text(x); got != want {
		t.Errorf("Text(%s): %s; want %s", told(x), told(got), told(want))
	}
}

func TestTexts(t *testing.T) {
	for _, s := range ordinary() {
		checkText(t, s.x, s.text)
		checkText(t, lam(s.x), `(\ `+s.text+")")
		checkText(t, app(s.x, failed()), "(@ "+s.text+" !)")
		checkText(t, app(number(0), s.x), "(@ 0 "+s.text+")")
		checkText(t, con("A", s.x, s.x, s.x), "(A "+s.text+" "+s.text+" "+s.text+")")
		checkText(t, choice(s.x, alt("A", 1, s.x)), "(? "+s.text+" (A:1 "+s.text+"))")
		checkText(t, alt("B", 7, s.x), "(B:7 "+s.text+")")
		for _, sign := range goodSigns {
			checkText(t, op(sign, s.x, number(1)), "("+sign+" "+s.text+" 1)")
			checkText(t, op(sign, number(1), s.x), "("+sign+" 1 "+s.text+")")
		}
	}
	checkText(t, con("Nil"), "(Nil)")
	checkText(t, con(con16), "("+con16+")")
}

func TestTextsOfNumbers(t *testing.T) {
	for text, n := range map[string]int{
		"0": 0, "1": 1, "9": 9, "10": 10, "12": 12, "100": 100, "999": 999,
		"-1": -1, "-9": -9, "-10": -10, "-100": -100,
		"999999999999999999": 1e18 - 1, "-1000000000000000000": -1e18,
		mostText: most, "-" + mostText: -most, leastText: fewest,
	} {
		checkText(t, number(n), text)
		checkText(t, variable(n), "#"+text)
		checkText(t, alt("A", n, failed()), "(A:"+text+" !)")
		checkText(t, op("-", number(n), number(n)), "(- "+text+" "+text+")")
		checkText(t, lam(variable(n)), `(\ #`+text+")")
	}
}

func TestTextsOfTermsThatMayNotBe(t *testing.T) {
	one, l := number(1), []api.Term{number(1), variable(2)}
	for _, c := range []struct {
		x    api.Term
		want string
	}{
		// Without parts, and with others than there are to be.
		{api.Term{Kind: 2}, `(\)`},
		{api.Term{Kind: 2, L: l}, `(\ 1 #2)`},
		{api.Term{Kind: 3}, "(@)"},
		{api.Term{Kind: 3, L: l[:1]}, "(@ 1)"},
		{api.Term{Kind: 3, L: many(3, one)}, "(@ 1 1 1)"},
		{api.Term{Kind: 4, Name: "A", L: many(9, one)}, "(A 1 1 1 1 1 1 1 1 1)"},
		{api.Term{Kind: 5}, "(?)"},
		{api.Term{Kind: 5, L: l}, "(? 1 #2)"},
		{choice(alt("A", 0, one), alt("A", 0, one)), "(? (A:0 1) (A:0 1))"},
		{api.Term{Kind: 6, Name: "A", N: 3}, "(A:3)"},
		{api.Term{Kind: 6, Name: "A", N: 9, L: l}, "(A:9 1 #2)"},
		{api.Term{Kind: 8, Name: "+"}, "(+)"},
		{api.Term{Kind: 8, Name: "+", L: l[:1]}, "(+ 1)"},
		{api.Term{Kind: 8, Name: "+", L: many(3, one)}, "(+ 1 1 1)"},
		// Parts, where they are not told.
		{api.Term{Kind: 1, N: 4, L: l}, "#4"},
		{api.Term{Kind: 7, N: 4, L: l}, "4"},
		{api.Term{Kind: 9, L: l}, "!"},
		// Names and numbers, where they are not told.
		{api.Term{Kind: 1, N: 4, Name: "x"}, "#4"},
		{api.Term{Kind: 2, N: 4, Name: "x", L: l}, `(\ 1 #2)`},
		{api.Term{Kind: 3, N: 4, Name: "x", L: l}, "(@ 1 #2)"},
		{api.Term{Kind: 4, N: 4, Name: "A", L: l}, "(A 1 #2)"},
		{api.Term{Kind: 5, N: 4, Name: "A", L: l}, "(? 1 #2)"},
		{api.Term{Kind: 7, N: 4, Name: "A"}, "4"},
		{api.Term{Kind: 8, N: 4, Name: "+", L: l}, "(+ 1 #2)"},
		{api.Term{Kind: 9, N: 4, Name: "A"}, "!"},
		// Other names.
		{api.Term{Kind: 4}, "()"},
		{api.Term{Kind: 4, L: l}, "( 1 #2)"},
		{api.Term{Kind: 4, Name: "a b", L: l}, "(a b 1 #2)"},
		{api.Term{Kind: 4, Name: "\\", L: l[:1]}, `(\ 1)`},
		{api.Term{Kind: 6}, "(:0)"},
		{api.Term{Kind: 6, L: l}, "(:0 1 #2)"},
		{api.Term{Kind: 6, Name: "\xff:\x00", N: -1}, "(\xff:\x00:-1)"},
		{api.Term{Kind: 8, L: l}, "( 1 #2)"},
		{api.Term{Kind: 8, Name: "=>", L: l}, "(=> 1 #2)"},
		{api.Term{Kind: 8, Name: "é", L: l}, "(é 1 #2)"},
		// Other kinds.
		{api.Term{}, "()"},
		{api.Term{L: l}, "( 1 #2)"},
		{api.Term{Name: "A", N: 4}, "()"},
		{api.Term{Kind: 10, Name: "A", N: 4, L: l}, "( 1 #2)"},
		{api.Term{Kind: -1, Name: "A", N: 4, L: l[:1]}, "( 1)"},
		{api.Term{Kind: fewest}, "()"},
		{api.Term{Kind: most, L: many(2, api.Term{})}, "( () ())"},
		{api.Term{Kind: 257, N: 3}, "()"},
		// Empty lists.
		{api.Term{Kind: 2, L: []api.Term{}}, `(\)`},
		{api.Term{Kind: 4, Name: "A", L: []api.Term{}}, "(A)"},
	} {
		checkText(t, c.x, c.want)
		checkText(t, lam(c.x), `(\ `+c.want+")")
		checkText(t, choice(one, alt("A", 0, c.x)), "(? 1 (A:0 "+c.want+"))")
		checkText(t, api.Term{L: []api.Term{c.x, one}}, "( "+c.want+" 1)")
	}
}

func TestLongTexts(t *testing.T) {
	checkText(t, con("A", many(100000, number(-7))...), "(A"+strings.Repeat(" -7", 100000)+")")
	long := strings.Repeat("A ", 100000)
	checkText(t, con(long, failed()), "("+long+" !)")
	checkText(t, api.Term{Kind: 0, Name: long}, "()")
}

// writing is the text of x, made otherwise: as words that are put together.
func writing(x api.Term) string {
	n := strconv.FormatInt(int64(x.N), 10)
	switch x.Kind {
	case 1:
		return "#" + n
	case 7:
		return n
	case 9:
		return "!"
	}
	words := []string{map[int]string{2: `\`, 3: "@", 4: x.Name, 5: "?", 6: x.Name + ":" + n, 8: x.Name}[x.Kind]}
	for _, p := range x.L {
		words = append(words, writing(p))
	}
	return "(" + strings.Join(words, " ") + ")"
}

func TestTextsOfHarmedTerms(t *testing.T) {
	r := rand.New(rand.NewSource(4))
	for range 20000 {
		x := likely(r, r.Intn(5))
		checkText(t, x, writing(x))
		for range 1 + r.Intn(4) {
			harm(r, &x)
		}
		checkText(t, x, writing(x))
	}
}

// P6.3: unlike terms that may be have unlike Texts.

// reader reads a text of a term that may be.
type reader struct{ rest string }

// word is what stands ahead of the next blank or sign, and is read.
func (r *reader) word() string {
	n := strings.IndexAny(r.rest, " ()")
	if n < 0 {
		n = len(r.rest)
	}
	s := r.rest[:n]
	r.rest = r.rest[n:]
	return s
}

func (r *reader) term() api.Term {
	if !strings.HasPrefix(r.rest, "(") {
		return leaf(r.word())
	}
	r.rest = r.rest[1:]
	x := headed(r.word())
	for strings.HasPrefix(r.rest, " ") {
		r.rest = r.rest[1:]
		x.L = append(x.L, r.term())
	}
	r.rest = strings.TrimPrefix(r.rest, ")")
	return x
}

func leaf(s string) api.Term {
	if s == "!" {
		return failed()
	}
	n, _ := strconv.Atoi(strings.TrimPrefix(s, "#"))
	if s[0] == '#' {
		return variable(n)
	}
	return number(n)
}

func headed(s string) api.Term {
	switch {
	case s == `\`:
		return api.Term{Kind: 2}
	case s == "@":
		return api.Term{Kind: 3}
	case s == "?":
		return api.Term{Kind: 5}
	case slices.Contains(goodSigns, s):
		return api.Term{Kind: 8, Name: s}
	}
	name, digits, is := strings.Cut(s, ":")
	if !is {
		return api.Term{Kind: 4, Name: name}
	}
	n, _ := strconv.Atoi(digits)
	return api.Term{Kind: 6, Name: name, N: n}
}

func checkReadAgain(t *testing.T, x api.Term) {
	t.Helper()
	s := core.Text(x)
	r := reader{s}
	if y := r.term(); r.rest != "" || !equal(x, y) || !core.Same(x, y) {
		t.Errorf("Text(%v), %q, is also that of %v", x, s, y)
	}
}

func TestTextsOfTermsThatMayBeAreReadAgain(t *testing.T) {
	for _, s := range ordinary() {
		checkReadAgain(t, s.x)
	}
	for _, n := range []int{fewest, -1, 0, 1, 10, most} {
		checkReadAgain(t, number(n))
		checkReadAgain(t, variable(max(n, 0)))
	}
	for _, s := range goodCons {
		checkReadAgain(t, con(s))
		checkReadAgain(t, choice(con(s, number(1)), alt(s, 8, failed())))
	}
	r := rand.New(rand.NewSource(5))
	for range 20000 {
		x := likely(r, r.Intn(6))
		checkReadAgain(t, x)
		harm(r, &x)
		if core.May(x, great) {
			checkReadAgain(t, x)
		}
	}
}

// small are terms over few names and numbers, unlike ones, listed by how many parts they have; of so many, and fewer.
func small(size int) [][]api.Term {
	all := make([][]api.Term, size+1)
	all[1] = []api.Term{variable(0), variable(1), variable(10), number(0), number(1), number(-1), number(10), failed(), con("A"), con("B")}
	for n := 2; n <= size; n++ {
		for _, p := range all[n-1] {
			all[n] = append(all[n], lam(p), con("A", p), con("B", p))
		}
		for left := 1; left < n-1; left++ {
			for _, a := range all[left] {
				for _, b := range all[n-1-left] {
					all[n] = append(all[n], app(a, b), con("A", a, b), op("+", a, b), op("-", a, b))
					// These have a part more than the others.
					all[n] = append(all[n], choice(a, alt("A", 0, b)), choice(a, alt("A", 1, b)), choice(a, alt("B", 1, b)))
				}
			}
		}
	}
	return all
}

func TestSmallTermsHaveTextsOfTheirOwn(t *testing.T) {
	t.Parallel()
	of := map[string]api.Term{}
	for _, l := range small(4) {
		for _, x := range l {
			checkMay(t, "small", x, 20, true)
			s := core.Text(x)
			if y, is := of[s]; is {
				t.Errorf("%v and %v: %q", x, y, s)
			}
			of[s] = x
		}
	}
	if len(of) < 1000 {
		t.Error("few terms", len(of))
	}
}

func TestLikeTextsJustOfTheSame(t *testing.T) {
	t.Parallel()
	r := rand.New(rand.NewSource(6))
	count := map[bool]int{}
	for range 40000 {
		a := likely(r, r.Intn(4))
		b := copied(a)
		harm(r, &b)
		if !core.May(b, great) {
			b = likely(r, r.Intn(2))
		}
		same := core.Same(a, b)
		count[same]++
		if same != (core.Text(a) == core.Text(b)) {
			t.Errorf("%v, %v: same: %v; %q, %q", a, b, same, core.Text(a), core.Text(b))
		}
	}
	if count[true] < 1000 || count[false] < 1000 {
		t.Error("too few of a sort", count)
	}
}

// P6.3: what may be of some free variables may be of more.

func TestWhatMayBeOfSomeMayBeOfMore(t *testing.T) {
	t.Parallel()
	r := rand.New(rand.NewSource(7))
	some := 0
	for range 10000 {
		x := likely(r, r.Intn(6))
		if r.Intn(3) == 0 {
			harm(r, &x)
		}
		may := false
		for _, free := range []int{-1, 0, 1, 2, 3, 4, 5, 6, 10, 20, 1000, 1 << 31, 1 << 32, great, great + 1} {
			now := core.May(x, free)
			if may && !now {
				t.Errorf("May(%v, %d), but of fewer it may", x, free)
			}
			may = now
		}
		if may && !core.May(x, 0) {
			some++
		}
	}
	if some < 1000 {
		t.Error("few that are not closed", some)
	}
}

// P1, and the rules: every call ends, none panics; nothing is changed, nothing is kept.

// wild is a term that has anything.
func wild(r *rand.Rand, deep int) api.Term {
	x := api.Term{
		Kind: pick(r, 1, 2, 3, 4, 5, 6, 7, 8, 9, 0, -1, 10, fewest, most),
		N:    pick(r, 0, 0, 1, 2, 8, 9, -1, fewest, most),
		Name: pick(r, "", "", "A", "B", "+", "x", "(", "\xff", "let"),
	}
	for range r.Intn(4) {
		if deep > 0 {
			x.L = append(x.L, wild(r, deep-1))
		}
	}
	if r.Intn(8) == 0 {
		x.L = append(x.L, alts(r.Intn(10), number(1))...)
	}
	return x
}

func TestWildTerms(t *testing.T) {
	t.Parallel()
	r := rand.New(rand.NewSource(8))
	for range 20000 {
		x, y := wild(r, r.Intn(4)), wild(r, r.Intn(4))
		checkHarmed(t, x)
		checkText(t, x, writing(x))
		checkSame(t, x, y, equal(x, y))
		depth, size := measure(x)
		if core.Depth(x) != depth || core.Size(x) != size {
			t.Errorf("%v: Depth %d, Size %d", x, core.Depth(x), core.Size(x))
		}
		for _, free := range []int{fewest, fewest + 1, -1} {
			checkMay(t, "wild", x, free, false)
		}
		core.May(x, most)
	}
}

// roomy is x, each of whose lists has room behind it, that has something.
func roomy(x api.Term) api.Term {
	l := []api.Term{}
	for _, p := range x.L {
		l = append(l, roomy(p))
	}
	x.L = append(l, number(77), failed())[:len(l)]
	return x
}

func checkRoom(t *testing.T, x api.Term) {
	t.Helper()
	n := len(x.L)
	if behind := x.L[n : n+2]; !equal(behind[0], number(77)) || !equal(behind[1], failed()) {
		t.Errorf("behind a list of %v something was changed: %v", x, behind)
	}
	for _, p := range x.L {
		checkRoom(t, p)
	}
}

func TestArgumentsAreLeft(t *testing.T) {
	r := rand.New(rand.NewSource(9))
	check := func(want api.Term) {
		t.Helper()
		x, y := roomy(want), roomy(want)
		for free := range 4 {
			core.May(x, free)
		}
		core.Depth(x)
		core.Size(x)
		core.Text(x)
		core.Same(x, y)
		core.Same(x, lam(y))
		if !equal(x, want) || !equal(y, want) {
			t.Errorf("%v was changed: %v, %v", want, x, y)
		}
		checkRoom(t, x)
		checkRoom(t, y)
	}
	for _, s := range ordinary() {
		check(s.x)
	}
	for range 500 {
		check(wild(r, 3))
	}
}

func TestNothingIsKept(t *testing.T) {
	all := ordinary()
	for range 3 {
		for what, s := range all {
			checkNeeds(t, what, s.x, s.needs)
			checkText(t, s.x, s.text)
			checkSame(t, s.x, s.x, true)
			checkText(t, api.Term{Kind: 4, Name: what}, "("+what+")")
			checkNeeds(t, what, api.Term{Kind: 4, Name: what, N: 1}, never)
			depth, size := measure(s.x)
			if core.Depth(s.x) != depth || core.Size(s.x) != size {
				t.Errorf("%s: Depth %d, Size %d", what, core.Depth(s.x), core.Size(s.x))
			}
		}
	}
}

func TestCallsAtOneTime(t *testing.T) {
	all := ordinary()
	var wait sync.WaitGroup
	for range 8 {
		wait.Add(1)
		go func() {
			defer wait.Done()
			for range 20 {
				for what, s := range all {
					checkNeeds(t, what, s.x, s.needs)
					checkText(t, s.x, s.text)
					checkSame(t, s.x, copied(s.x), true)
					core.Depth(s.x)
					core.Size(s.x)
				}
			}
		}()
	}
	wait.Wait()
}
