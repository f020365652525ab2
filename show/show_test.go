package show_test

import (
	"math"
	"math/rand"
	"reflect"
	"slices"
	"strconv"
	"strings"
	"sync"
	"testing"
	"unsafe"

	"gossamer/api"
	"gossamer/lex"
	"gossamer/parse"
	"gossamer/show"
	"gossamer/tree"
)

// Kinds, limits and errors are written as numbers: the chapters tell them so.
const (
	ok      api.Errno = 0
	errDeep api.Errno = 31
	errBig  api.Errno = 32

	deepest = 200
	longest = 4096
	great   = 999999999999999999
	levels  = 1 << 16

	name16 = "abcdefghijklmnop"
	con16  = "ABCDEFGHIJKLMNOP"
)

func variable(s string) api.Tree           { return api.Tree{Kind: 1, Name: s} }
func lam(s string, b api.Tree) api.Tree    { return api.Tree{Kind: 2, Name: s, L: []api.Tree{b}} }
func app(f, a api.Tree) api.Tree           { return api.Tree{Kind: 3, L: []api.Tree{f, a}} }
func let(s string, x, b api.Tree) api.Tree { return api.Tree{Kind: 4, Name: s, L: []api.Tree{x, b}} }
func rec(s string, x, b api.Tree) api.Tree { return api.Tree{Kind: 5, Name: s, L: []api.Tree{x, b}} }
func con(s string, l ...api.Tree) api.Tree { return api.Tree{Kind: 6, Name: s, L: l} }
func number(n int) api.Tree                { return api.Tree{Kind: 9, N: n} }
func op(s string, a, b api.Tree) api.Tree  { return api.Tree{Kind: 10, Name: s, L: []api.Tree{a, b}} }

func choice(x api.Tree, alts ...api.Tree) api.Tree {
	return api.Tree{Kind: 7, L: append([]api.Tree{x}, alts...)}
}

// alt is an alternative with as many variables as it has parts, less one.
func alt(s string, l ...api.Tree) api.Tree {
	return api.Tree{Kind: 8, Name: s, N: len(l) - 1, L: l}
}

func many(n int, p api.Tree) []api.Tree { return slices.Repeat([]api.Tree{p}, n) }

// places is t, in which the places of trees are those that next tells.
func places(t api.Tree, next func() int) api.Tree {
	t.At, t.L = next(), slices.Clone(t.L)
	for i, p := range t.L {
		t.L[i] = places(p, next)
	}
	return t
}

func short(s string) string {
	if len(s) > 300 {
		return s[:300] + ".."
	}
	return s
}

// checkText asks for the text of x.
func checkText(t *testing.T, x api.Tree, want string) {
	t.Helper()
	if got := show.Text(x); got != want {
		t.Errorf("Text: %q, not %q", short(got), short(want))
	}
}

// checkNone asks for the text of what may not be.
func checkNone(t *testing.T, what string, x api.Tree) {
	t.Helper()
	if got := show.Text(x); got != "" {
		t.Errorf("%s: Text(%v): %q, not nothing", what, x, short(got))
	}
}

// checkRead asks that s is read as that tree, but for places.
func checkRead(t *testing.T, s string, want api.Tree) {
	t.Helper()
	got, at, e := parse.Parse(s, deepest)
	if e != ok {
		t.Errorf("Parse(%q): error %d at %d", short(s), e, at)
	} else if !tree.Same(got, want) {
		t.Errorf("Parse(%q): %v, not %v", short(s), got, want)
	}
}

// check asks for the text of x, and that it is read as x.
func check(t *testing.T, x api.Tree, want string) {
	t.Helper()
	checkText(t, x, want)
	checkRead(t, show.Text(x), x)
}

// P4.1, each Kind: its words, and its blanks.

var (
	f, x, y = variable("f"), variable("x"), variable("y")
	one     = number(1)
)

func TestVariables(t *testing.T) {
	for _, s := range []string{"x", "z", "a0", "f1", "camelCase", "lets", "le", "i", "inn", "caseof", "lET", name16, "a234567890123456"} {
		check(t, variable(s), s)
	}
}

func TestNumbers(t *testing.T) {
	for n, s := range map[int]string{0: "0", 1: "1", 9: "9", 10: "10", 42: "42", 100: "100", 1 << 31: "2147483648", 1 << 32: "4294967296", 100000000000000000: "100000000000000000", great - 1: "999999999999999998", great: "999999999999999999"} {
		check(t, number(n), s)
		check(t, app(number(n), number(n)), s+" "+s)
		check(t, op("-", number(n), number(n)), s+" - "+s)
		check(t, con("A", number(n)), "A "+s)
		check(t, lam("x", number(n)), `\x. `+s)
	}
	for _, n := range []int{-1, -great, great + 1, math.MinInt, math.MaxInt, -1 << 32} {
		checkNone(t, "number", number(n))
		checkNone(t, "number in a sum", op("+", one, number(n)))
	}
}

func TestFunctions(t *testing.T) {
	check(t, lam("x", x), `\x. x`)
	check(t, lam(name16, one), `\`+name16+`. 1`)
	check(t, lam("x", lam("y", x)), `\x. \y. x`)
	check(t, lam("x", app(x, x)), `\x. x x`)
	check(t, lam("x", op("<", x, one)), `\x. x < 1`)
}

func TestApplied(t *testing.T) {
	check(t, app(f, x), "f x")
	check(t, app(app(f, x), y), "f x y")
	check(t, app(f, app(x, y)), "f (x y)")
	check(t, app(one, number(2)), "1 2")
	check(t, app(lam("x", app(x, x)), lam("x", app(x, x))), `(\x. x x) (\x. x x)`)
}

func TestLets(t *testing.T) {
	check(t, let("x", one, x), "let x = 1 in x")
	check(t, rec("x", one, x), "letrec x = 1 in x")
	check(t, let(name16, x, y), "let "+name16+" = x in y")
	check(t, let("x", let("y", one, y), rec("z", x, y)), "let x = let y = 1 in y in letrec z = x in y")
	check(t, rec("f", lam("n", app(f, x)), app(f, number(3))), `letrec f = \n. f x in f 3`)
	check(t, let("x", op("*", number(2), number(3)), con("Cons", x, x)), "let x = 2 * 3 in Cons x x")
}

func TestConstructors(t *testing.T) {
	for _, s := range []string{"A", "Nil", "True", "Let", "LET", "X1y2", con16} {
		check(t, con(s), s)
		want := s
		for n := 1; n <= 8; n++ {
			want += " " + strconv.Itoa(n)
			l := []api.Tree{}
			for i := range n {
				l = append(l, number(i+1))
			}
			check(t, con(s, l...), want)
		}
	}
	check(t, con("Cons", one, con("Cons", x, con("Nil"))), "Cons 1 (Cons x Nil)")
	check(t, api.Tree{Kind: 6, Name: "Nil", L: []api.Tree{}}, "Nil")
	check(t, app(f, api.Tree{Kind: 6, Name: "Nil", L: []api.Tree{}}), "f Nil")
}

func TestCases(t *testing.T) {
	check(t, choice(x, alt("Nil", one)), "case x of { Nil -> 1 }")
	check(t, choice(x, alt("Nil", number(0)), alt("Cons", variable("h"), variable("t"), variable("h"))),
		"case x of { Nil -> 0 | Cons h t -> h }")
	check(t, choice(x, alt("A", y), alt("B", y), alt("C", y)), "case x of { A -> y | B -> y | C -> y }")
	check(t, choice(choice(x, alt("A", con("B"))), alt("B", choice(y, alt("C", one), alt("D", one))), alt("E", x, x)),
		"case case x of { A -> B } of { B -> case y of { C -> 1 | D -> 1 } | E x -> x }")
	check(t, choice(app(f, one), alt("A", lam("x", x)), alt("B", op("<", one, x))), `case f 1 of { A -> \x. x | B -> 1 < x }`)
	for n := range 8 {
		check(t, choice(x, many(n+1, alt("A", one))...), "case x of { A -> 1"+strings.Repeat(" | A -> 1", n)+" }")
	}
	for n := range 9 {
		check(t, choice(x, alt("A", append(many(n, y), one)...)), "case x of { A"+strings.Repeat(" y", n)+" -> 1 }")
	}
	check(t, choice(x, alt(con16, variable(name16), one)), "case x of { "+con16+" "+name16+" -> 1 }")
}

func TestOperators(t *testing.T) {
	for _, s := range []string{"+", "-", "*", "/", "<", "=="} {
		check(t, op(s, x, one), "x "+s+" 1")
		check(t, op(s, app(f, x), con("A", one)), "f x "+s+" A 1")
		check(t, op(s, x, lam("x", x)), "x "+s+` (\x. x)`)
	}
	check(t, op("*", number(2), op("+", x, one)), "2 * (x + 1)")
	check(t, op("+", op("*", number(2), x), one), "2 * x + 1")
	check(t, op("-", op("-", one, x), y), "1 - x - y")
	check(t, op("-", one, op("-", x, y)), "1 - (x - y)")
	check(t, op("<", op("<", one, x), y), "(1 < x) < y")
	check(t, op("==", one, op("<", x, y)), "1 == (x < y)")
	check(t, op("==", op("-", x, one), op("*", y, one)), "x - 1 == y * 1")
}

// P4.1, each Kind as a part of each other one.

// leveled is a tree with its text and its own level.
type leveled struct {
	x     api.Tree
	text  string
	level int
}

func eachKind() []leveled {
	return []leveled{
		{variable("v"), "v", 5},
		{number(7), "7", 5},
		{con("Nil"), "Nil", 5},
		{con("A", one), "A 1", 4},
		{app(f, x), "f x", 4},
		{op("*", one, x), "1 * x", 3},
		{op("/", one, x), "1 / x", 3},
		{op("+", one, x), "1 + x", 2},
		{op("-", one, x), "1 - x", 2},
		{op("<", one, x), "1 < x", 1},
		{op("==", one, x), "1 == x", 1},
		{lam("z", x), `\z. x`, 0},
		{let("z", one, x), "let z = 1 in x", 0},
		{rec("z", one, x), "letrec z = 1 in x", 0},
		{choice(x, alt("A", one)), "case x of { A -> 1 }", 0},
		{choice(x, alt("A", one), alt("B", y, y)), "case x of { A -> 1 | B y -> y }", 0},
	}
}

// place is where a tree may be a part: what it is put into, what stands ahead of it and behind it, and the place's level.
type place struct {
	in            func(p api.Tree) api.Tree
	ahead, behind string
	level         int
}

// eachPlace has all but the first place of a TreeApp, where a TreeCon is told otherwise: see below.
func eachPlace() []place {
	b := number(2)
	return []place{
		{func(p api.Tree) api.Tree { return p }, "", "", 0},
		{func(p api.Tree) api.Tree { return lam("y", p) }, `\y. `, "", 0},
		{func(p api.Tree) api.Tree { return app(y, p) }, "y ", "", 5},
		{func(p api.Tree) api.Tree { return app(app(y, p), b) }, "y ", " 2", 5},
		{func(p api.Tree) api.Tree { return app(con("B"), p) }, "(B) ", "", 5},
		{func(p api.Tree) api.Tree { return let("y", p, b) }, "let y = ", " in 2", 0},
		{func(p api.Tree) api.Tree { return let("y", b, p) }, "let y = 2 in ", "", 0},
		{func(p api.Tree) api.Tree { return rec("y", p, b) }, "letrec y = ", " in 2", 0},
		{func(p api.Tree) api.Tree { return rec("y", b, p) }, "letrec y = 2 in ", "", 0},
		{func(p api.Tree) api.Tree { return con("B", p) }, "B ", "", 5},
		{func(p api.Tree) api.Tree { return con("B", p, b) }, "B ", " 2", 5},
		{func(p api.Tree) api.Tree { return con("B", b, p) }, "B 2 ", "", 5},
		{func(p api.Tree) api.Tree { return con("B", b, b, b, p, b, b, b, b) }, "B 2 2 2 ", " 2 2 2 2", 5},
		{func(p api.Tree) api.Tree { return con("B", b, b, b, b, b, b, b, p) }, "B 2 2 2 2 2 2 2 ", "", 5},
		{func(p api.Tree) api.Tree { return choice(p, alt("B", b)) }, "case ", " of { B -> 2 }", 0},
		{func(p api.Tree) api.Tree { return choice(b, alt("B", p)) }, "case 2 of { B -> ", " }", 0},
		{func(p api.Tree) api.Tree { return choice(b, alt("B", y, p), alt("C", b)) }, "case 2 of { B y -> ", " | C -> 2 }", 0},
		{func(p api.Tree) api.Tree { return choice(b, alt("B", b), alt("C", y, x, p)) }, "case 2 of { B -> 2 | C y x -> ", " }", 0},
		{func(p api.Tree) api.Tree { return op("+", p, b) }, "", " + 2", 2},
		{func(p api.Tree) api.Tree { return op("+", b, p) }, "2 + ", "", 3},
		{func(p api.Tree) api.Tree { return op("-", p, b) }, "", " - 2", 2},
		{func(p api.Tree) api.Tree { return op("-", b, p) }, "2 - ", "", 3},
		{func(p api.Tree) api.Tree { return op("*", p, b) }, "", " * 2", 3},
		{func(p api.Tree) api.Tree { return op("*", b, p) }, "2 * ", "", 4},
		{func(p api.Tree) api.Tree { return op("/", p, b) }, "", " / 2", 3},
		{func(p api.Tree) api.Tree { return op("/", b, p) }, "2 / ", "", 4},
		{func(p api.Tree) api.Tree { return op("<", p, b) }, "", " < 2", 2},
		{func(p api.Tree) api.Tree { return op("<", b, p) }, "2 < ", "", 2},
		{func(p api.Tree) api.Tree { return op("==", p, b) }, "", " == 2", 2},
		{func(p api.Tree) api.Tree { return op("==", b, p) }, "2 == ", "", 2},
	}
}

// within is a text, with signs around it, if it is of a lower level than its place.
func within(text string, own, place int) string {
	if own < place {
		return "(" + text + ")"
	}
	return text
}

func TestEachKindAtEachPlace(t *testing.T) {
	for _, k := range eachKind() {
		for _, p := range eachPlace() {
			check(t, p.in(k.x), p.ahead+within(k.text, k.level, p.level)+p.behind)
		}
	}
}

func TestEachKindApplied(t *testing.T) {
	for _, k := range eachKind() {
		want := within(k.text, k.level, 4)
		if k.x.Kind == 6 {
			want = "(" + k.text + ")"
		}
		check(t, app(k.x, y), want+" y")
		check(t, app(app(k.x, y), one), want+" y 1")
		check(t, app(f, app(k.x, y)), "f ("+want+" y)")
		check(t, con("B", app(k.x, y)), "B ("+want+" y)")
		for _, other := range eachKind() {
			check(t, app(k.x, other.x), want+" "+within(other.text, other.level, 5))
		}
	}
}

// Of each two places the outer one asks for signs around what the inner one is of.
func TestEachKindAtEachPlaceOfAnother(t *testing.T) {
	for _, k := range eachKind() {
		for _, in := range eachPlace() {
			for _, out := range eachPlace() {
				inner := in.in(k.x)
				text := in.ahead + within(k.text, k.level, in.level) + in.behind
				check(t, out.in(inner), out.ahead+within(text, levelOf(inner), out.level)+out.behind)
			}
		}
	}
}

// levelOf is that of the tables above: which level a tree of its Kind and Name has, and with parts or without.
func levelOf(x api.Tree) int {
	for _, k := range eachKind() {
		if k.x.Kind == x.Kind && (x.Kind != 10 || k.x.Name == x.Name) && (len(k.x.L) > 0) == (len(x.L) > 0) {
			return k.level
		}
	}
	return -1
}

func TestConstructorsThatAreApplied(t *testing.T) {
	a, b := con("A"), con("B")
	check(t, app(a, x), "(A) x")
	check(t, app(con("A", one), x), "(A 1) x")
	check(t, app(app(a, x), y), "(A) x y")
	check(t, app(app(con("A", one, x), x), y), "(A 1 x) x y")
	check(t, app(a, b), "(A) B")
	check(t, app(a, app(b, x)), "(A) ((B) x)")
	check(t, app(con("A", one), con("B", x)), "(A 1) (B x)")
	check(t, app(app(f, a), con("B", x)), "f A (B x)")
	check(t, con("A", app(b, x)), "A ((B) x)")
	check(t, op("*", app(a, x), app(b, y)), "(A) x * (B) y")
	check(t, lam("x", app(a, x)), `\x. (A) x`)
	check(t, choice(app(a, x), alt("A", y, app(b, y))), "case (A) x of { A y -> (B) y }")
	check(t, app(con("A", many(8, one)...), one), "(A 1 1 1 1 1 1 1 1) 1")
	check(t, app(api.Tree{Kind: 6, Name: "A", L: []api.Tree{}}, x), "(A) x")
}

// P4.1, trees that may not be: they have no text.

func mayNot() map[string]api.Tree {
	minus, far := x, alt("B", y, one)
	minus.At, far.At = -1, -1
	return map[string]api.Tree{
		"nothing":                       {},
		"no kind, below":                {Kind: -1, Name: "x"},
		"no kind, above":                {Kind: 11, Name: "x"},
		"no kind, far above":            {Kind: math.MaxInt, L: many(2, one)},
		"alternative, alone":            alt("A", one),
		"alternative, with a variable":  alt("A", x, x),
		"variable without a name":       variable(""),
		"variable with a con's name":    variable("X"),
		"variable with a word":          variable("let"),
		"variable with a sign":          variable("+"),
		"variable with blanks":          variable("x y"),
		"variable with signs":           variable("(x)"),
		"variable with a long name":     variable(name16 + "q"),
		"variable with N":               {Kind: 1, Name: "x", N: 1},
		"variable with a part":          {Kind: 1, Name: "x", L: many(1, one)},
		"variable ahead of the text":    minus,
		"function without a name":       lam("", x),
		"function of a word":            lam("in", x),
		"function without a part":       {Kind: 2, Name: "x"},
		"function with two":             {Kind: 2, Name: "x", L: many(2, one)},
		"app with a name":               {Kind: 3, Name: "f", L: many(2, one)},
		"app without parts":             {Kind: 3},
		"app with one part":             {Kind: 3, L: many(1, f)},
		"app with three":                {Kind: 3, L: many(3, f)},
		"let without a name":            let("", one, x),
		"let of a con's name":           let("X", one, x),
		"let with one part":             {Kind: 4, Name: "x", L: many(1, one)},
		"letrec of a number's text":     rec("1", one, x),
		"letrec without parts":          {Kind: 5, Name: "x"},
		"letrec with three":             {Kind: 5, Name: "x", L: many(3, one)},
		"con without a name":            con(""),
		"con with a variable's name":    con("a"),
		"con with a long name":          con(con16 + "Q"),
		"con with nine parts":           con("A", many(9, one)...),
		"con with N":                    {Kind: 6, Name: "A", N: 1, L: many(1, one)},
		"case of nothing":               {Kind: 7},
		"case without alternatives":     choice(x),
		"case with nine of them":        choice(x, many(9, alt("A", one))...),
		"case with others":              choice(x, one),
		"case with others behind":       choice(x, alt("A", one), x),
		"case of an alternative":        choice(alt("A", one), alt("A", one)),
		"case with a name":              {Kind: 7, Name: "x", L: []api.Tree{x, alt("A", one)}},
		"alternative without a name":    choice(x, alt("", one)),
		"alternative of a name":         choice(x, alt("a", one)),
		"alternative without parts":     choice(x, api.Tree{Kind: 8, Name: "A"}),
		"alternative below N":           choice(x, api.Tree{Kind: 8, Name: "A", N: -1, L: many(1, x)}),
		"alternative with a lesser N":   choice(x, api.Tree{Kind: 8, Name: "A", N: 0, L: many(2, x)}),
		"alternative with a greater N":  choice(x, api.Tree{Kind: 8, Name: "A", N: 5, L: many(2, x)}),
		"alternative with a great N":    choice(x, api.Tree{Kind: 8, Name: "A", N: math.MaxInt, L: many(2, x)}),
		"alternative with nine":         choice(x, alt("A", many(10, x)...)),
		"alternative with a number":     choice(x, alt("A", one, x)),
		"alternative with a con":        choice(x, alt("A", con("B"), x)),
		"alternative ahead of the text": choice(x, alt("A", one), far),
		"number below 0":                number(-1),
		"number that is too great":      number(great + 1),
		"number with a name":            {Kind: 9, Name: "1", N: 1},
		"number with a part":            {Kind: 9, N: 1, L: many(1, one)},
		"operator without a name":       op("", one, x),
		"operator of a name":            op("x", one, x),
		"operator that there is not":    op("%", one, x),
		"operator with a blank":         op("+ ", one, x),
		"operator with one part":        {Kind: 10, Name: "-", L: many(1, one)},
		"operator with three":           {Kind: 10, Name: "-", L: many(3, one)},
	}
}

func TestTreesThatMayNotBe(t *testing.T) {
	for what, no := range mayNot() {
		if tree.May(no) {
			t.Errorf("%s: %v may be", what, no)
		}
		for _, p := range eachPlace() {
			checkNone(t, what, p.in(no))
		}
		checkNone(t, what, app(no, x))
		if !strings.HasPrefix(what, "alternative, ") {
			checkNone(t, what, choice(x, no))
			checkNone(t, what, choice(x, alt("A", one), no, alt("B", one)))
		}
		for _, p := range eachPlace() {
			for _, q := range eachPlace() {
				checkNone(t, what, q.in(p.in(no)))
			}
		}
		// A variable is one where it is an alternative's, too.
		checkNone(t, what, choice(x, alt("A", no, one)))
		checkNone(t, what, choice(x, alt("A", y, no, one)))
	}
}

// Whatever a tree has, it has a text just if it may be.
func TestHarmedTrees(t *testing.T) {
	r := rand.New(rand.NewSource(4))
	count := map[bool]int{}
	for i := range 30000 {
		x := likely(r, 1+i%25)
		if !tree.May(x) {
			t.Fatalf("%v may not be", x)
		}
		harm(r, &x)
		may := tree.May(x)
		count[may]++
		if !may {
			checkNone(t, "harmed", x)
			continue
		}
		checkWritten(t, x)
	}
	if count[true] < 1000 || count[false] < 1000 {
		t.Error("too few of a sort", count)
	}
}

// harm changes one thing of x, or of one of its parts.
func harm(r *rand.Rand, x *api.Tree) {
	if len(x.L) > 0 && r.Intn(3) > 0 {
		harm(r, &x.L[r.Intn(len(x.L))])
		return
	}
	switch r.Intn(6) {
	case 0:
		x.Kind = r.Intn(13) - 1
	case 1:
		x.Name = pick(r, "", "x", "let", "A", "+", "<", "1", "=", " x")
	case 2:
		x.N = pick(r, -1, 0, 1, 2, 3, great, great+1)
	case 3:
		x.At = pick(r, -1, 0, 1)
	case 4:
		if len(x.L) > 0 {
			x.L = x.L[:len(x.L)-1]
		}
	case 5:
		x.L = append(x.L, pick(r, y, one, alt("A", one), alt("A", y, one)))
	}
}

func pick[T any](r *rand.Rand, l ...T) T { return l[r.Intn(len(l))] }

// P4.1, whatever a tree is: its text is known by what is read of it, by that none of its signs ( ) can be left out, and by where blanks are.

func checkWritten(t *testing.T, x api.Tree) {
	t.Helper()
	s := show.Text(x)
	checkRead(t, s, x)
	if want := laid(s); s != want {
		t.Errorf("Text: %q, not %q", short(s), short(want))
	}
	var open []int
	for i := range len(s) {
		switch s[i] {
		case '(':
			open = append(open, i)
		case ')':
			from := open[len(open)-1]
			open = open[:len(open)-1]
			less := s[:from] + " " + s[from+1:i] + " " + s[i+1:]
			if got, _, e := parse.Parse(less, deepest); e == ok && tree.Same(got, x) {
				t.Errorf("Text: %q, where %q does", short(s), short(less))
			}
		}
	}
}

// laid is a text of the tokens of s: a blank between any two, but behind `\` and `(`, and ahead of `.` and `)`.
func laid(s string) string {
	l, _, _ := lex.All(s)
	var b strings.Builder
	for i, t := range l {
		if i > 0 && l[i-1].Text != "\\" && l[i-1].Text != "(" && t.Text != "." && t.Text != ")" {
			b.WriteByte(' ')
		}
		b.WriteString(t.Text)
	}
	return b.String()
}

// likely is a tree that may be, of some n parts.
func likely(r *rand.Rand, n int) api.Tree {
	name, capital := pick(r, "x", "y", "f", "lets", "inn", name16, "x1"), pick(r, "A", "Nil", "Cons", "Let", con16)
	if n <= 1 {
		return pick(r, variable(name), con(capital), number(r.Intn(1000)))
	}
	part := func(n int) api.Tree { return likely(r, n) }
	switch n--; r.Intn(8) {
	case 0:
		return lam(name, part(n))
	case 1, 2:
		k := r.Intn(n + 1)
		return app(part(k), part(n-k))
	case 3:
		return pick(r, let, rec)(name, part(n/3), part(n-n/3))
	case 4:
		c := con(capital)
		for k := 1 + r.Intn(8); len(c.L) < k; {
			c.L = append(c.L, part(n/k))
		}
		return c
	case 5:
		c := choice(part(n / 3))
		for k := 1 + r.Intn(8); len(c.L) <= k; {
			l := many(max(0, r.Intn(18)-9), variable(name))
			c.L = append(c.L, alt(capital, append(l, part(n*2/3/k))...))
		}
		return c
	}
	k := r.Intn(n + 1)
	return op(pick(r, "+", "-", "*", "/", "<", "=="), part(k), part(n-k))
}

// P4.2.

func TestWrittenTreesAreRead(t *testing.T) {
	r := rand.New(rand.NewSource(42))
	read := 0
	for i := range 5000 {
		x := likely(r, 1+i%60)
		s, d := show.Text(x), tree.Depth(x)
		if len(s) > longest {
			if _, _, e := parse.Parse(s, deepest); e != errBig {
				t.Errorf("Parse of %d bytes: error %d", len(s), e)
			}
			continue
		}
		read++
		checkWritten(t, x)
		if got, _, e := parse.Parse(s, d); e != ok || !tree.Same(got, x) {
			t.Errorf("Parse(%q, %d): error %d", short(s), d, e)
		}
	}
	if read < 4500 {
		t.Error("few are read:", read)
	}
}

// Trees of many parts, whose texts are not much shorter than a text may be.
func TestLongTextsAreRead(t *testing.T) {
	r := rand.New(rand.NewSource(7))
	read := 0
	for range 2000 {
		x := likely(r, 50+r.Intn(300))
		s := show.Text(x)
		if len(s) < longest/2 || len(s) > longest || tree.Depth(x) > deepest {
			continue
		}
		checkRead(t, s, x)
		if want := laid(s); s != want {
			t.Errorf("Text: %q, not %q", s, want)
		}
		read++
	}
	if read < 100 {
		t.Error("few are read:", read)
	}
}

// filled is a tree of Depth 200 whose text has that many bytes.
func filled(t *testing.T, bytes int) api.Tree {
	t.Helper()
	whole := one
	for range 185 {
		whole = let("x", whole, x)
	}
	for range 14 {
		whole = op("+", whole, x)
	}
	// Names are made longer, till all of it is as long as it is to be.
	more := bytes - len(show.Text(whole))
	for at := &whole; more > 0 && len(at.L) > 0; at = &at.L[0] {
		n := min(more, 15)
		at.L[1] = variable(name16[:n+1])
		more -= n
	}
	if got := show.Text(whole); len(got) != bytes || tree.Depth(whole) != deepest {
		t.Errorf("not as long or as deep as it is to be: %d bytes, %d levels", len(got), tree.Depth(whole))
	}
	return whole
}

func TestUpTo4096Bytes(t *testing.T) {
	for _, n := range []int{3500, 4000, longest - 1, longest} {
		x := filled(t, n)
		checkRead(t, show.Text(x), x)
	}
	// What is too long to be read has a text.
	for _, n := range []int{longest + 1, longest + 500} {
		if _, at, e := parse.Parse(show.Text(filled(t, n)), deepest); e != errBig || at != 0 {
			t.Errorf("%d bytes: error %d at %d", n, e, at)
		}
	}
}

func TestUpTo200Levels(t *testing.T) {
	for _, c := range chains() {
		for n := range 202 {
			x := c.of(n)
			checkText(t, x, c.text(n))
			s, d := show.Text(x), c.base+n*c.more
			if n > 0 && tree.Depth(x) != d {
				t.Errorf("%s, %d times: %d deep, not %d", c.name, n, tree.Depth(x), d)
			}
			if d <= deepest {
				checkRead(t, s, x)
				continue
			}
			// What is too deep to be read, or too long as well, has a text.
			want := errDeep
			if len(s) > longest {
				want = errBig
			}
			if _, at, e := parse.Parse(s, deepest); e != want || at != 0 {
				t.Errorf("%s: %d deep: error %d at %d", c.name, d, e, at)
			}
		}
	}
}

// chain is the number 1 with some tree around, any number of times: the texts, and how deep it is (of 1 time and more).
type chain struct {
	name       string
	in         func(x api.Tree) api.Tree
	text       func(n int) string
	base, more int
}

func (c chain) of(n int) api.Tree {
	x := one
	for range n {
		x = c.in(x)
	}
	return x
}

// around tells texts that stand around 1 as they are.
func around(ahead, behind string) func(n int) string {
	return func(n int) string {
		return strings.Repeat(ahead, n) + "1" + strings.Repeat(behind, n)
	}
}

// signed tells texts that stand around 1 as it is, and within signs around what else there is.
func signed(ahead, behind string) func(n int) string {
	return func(n int) string {
		if n == 0 {
			return "1"
		}
		return strings.Repeat(ahead+"(", n-1) + ahead + "1" + behind + strings.Repeat(")"+behind, n-1)
	}
}

func chains() []chain {
	return []chain{
		{"functions", func(p api.Tree) api.Tree { return lam("x", p) }, around(`\x. `, ""), 1, 1},
		{"lets", func(p api.Tree) api.Tree { return let("x", x, p) }, around("let x = x in ", ""), 1, 1},
		{"lets ahead", func(p api.Tree) api.Tree { return let("x", p, x) }, around("let x = ", " in x"), 1, 1},
		{"letrecs", func(p api.Tree) api.Tree { return rec("x", x, p) }, around("letrec x = x in ", ""), 1, 1},
		{"letrecs ahead", func(p api.Tree) api.Tree { return rec("x", p, x) }, around("letrec x = ", " in x"), 1, 1},
		{"cases", func(p api.Tree) api.Tree { return choice(x, alt("A", p)) }, around("case x of { A -> ", " }"), 1, 2},
		{"cases further on", func(p api.Tree) api.Tree { return choice(x, alt("A", x), alt("B", y, p)) }, around("case x of { A -> x | B y -> ", " }"), 1, 2},
		{"cases ahead", func(p api.Tree) api.Tree { return choice(p, alt("A", x)) }, around("case ", " of { A -> x }"), 2, 1},
		{"applied", func(p api.Tree) api.Tree { return app(p, x) }, around("", " x"), 1, 1},
		{"what it is applied to", func(p api.Tree) api.Tree { return app(f, p) }, signed("f ", ""), 1, 1},
		{"what a con is applied to", func(p api.Tree) api.Tree { return app(con("A"), p) }, signed("(A) ", ""), 1, 1},
		{"cons", func(p api.Tree) api.Tree { return con("A", p) }, signed("A ", ""), 1, 1},
		{"cons further on", func(p api.Tree) api.Tree { return con("A", p, x) }, signed("A ", " x"), 1, 1},
		{"sums", func(p api.Tree) api.Tree { return op("+", p, x) }, around("", " + x"), 1, 1},
		{"differences", func(p api.Tree) api.Tree { return op("-", x, p) }, signed("x - ", ""), 1, 1},
		{"quotients", func(p api.Tree) api.Tree { return op("/", p, x) }, around("", " / x"), 1, 1},
		{"products", func(p api.Tree) api.Tree { return op("*", x, p) }, signed("x * ", ""), 1, 1},
		{"what is less", func(p api.Tree) api.Tree { return op("<", p, x) }, signed("", " < x"), 1, 1},
		{"what is greater", func(p api.Tree) api.Tree { return op("<", x, p) }, signed("x < ", ""), 1, 1},
		{"what is like it", func(p api.Tree) api.Tree { return op("==", x, p) }, signed("x == ", ""), 1, 1},
	}
}

// Trees that are unlike have texts that are unlike.
func TestUnlikeTreesHaveUnlikeTexts(t *testing.T) {
	texts := map[string]api.Tree{}
	for _, k := range eachKind() {
		for _, p := range eachPlace() {
			for _, q := range eachPlace() {
				x := q.in(p.in(k.x))
				s := show.Text(x)
				if other, was := texts[s]; was && !tree.Same(other, x) {
					t.Errorf("%q is the text of %v and of %v", s, other, x)
				}
				texts[s] = x
			}
		}
	}
}

func TestTextsOfWhatWasRead(t *testing.T) {
	for s, want := range map[string]string{
		"x": "x", " \n x\t": "x", "((x))": "x", "7": "7", "(A)": "A", "( (A) 1 )": "(A) 1", "(A 1)": "A 1",
		"f x + 1":                                "f x + 1",
		"f(x)+(1)":                               "f x + 1",
		"(f x)y":                                 "f x y",
		"f(x y)":                                 "f (x y)",
		"A(B)(C 1)(f x)":                         "A B (C 1) (f x)",
		`\x.x`:                                   `\x. x`,
		`\ x . ( x )`:                            `\x. x`,
		`\x.\y.(x y)`:                            `\x. \y. x y`,
		`(\x.(x x))(\x.x x)`:                     `(\x. x x) (\x. x x)`,
		"let x=2*3\nin Cons x x":                 "let x = 2 * 3 in Cons x x",
		"let x=(let y=1 in y)in(x)":              "let x = let y = 1 in y in x",
		"letrec f=\\n.f(n)in(f)3":                `letrec f = \n. f n in f 3`,
		"case(x)of{A b->b|Nil->\\y.1}":           `case x of { A b -> b | Nil -> \y. 1 }`,
		"case x of{A->(case y of{B->1})|C->(2)}": "case x of { A -> case y of { B -> 1 } | C -> 2 }",
		"1-2-3":                                  "1 - 2 - 3", "(1-2)-3": "1 - 2 - 3", "1-(2-3)": "1 - (2 - 3)",
		"1+2*3": "1 + 2 * 3", "1+(2*3)": "1 + 2 * 3", "(1+2)*3": "(1 + 2) * 3",
		"1/2*3": "1 / 2 * 3", "1/(2*3)": "1 / (2 * 3)", "(1*2)/3": "1 * 2 / 3",
		"(1+2)<(3*4)": "1 + 2 < 3 * 4", "(1<2)==3": "(1 < 2) == 3", "1==(2<3)": "1 == (2 < 3)",
		"1+(\\x.x)": `1 + (\x. x)`, "(let x=1 in x)+1": "(let x = 1 in x) + 1", "f(case x of{A->1})": "f (case x of { A -> 1 })",
	} {
		got, _, e := parse.Parse(s, deepest)
		if e != ok {
			t.Errorf("Parse(%q): error %d", s, e)
		}
		check(t, got, want)
		// What was written is written again as it is.
		again, _, _ := parse.Parse(want, deepest)
		check(t, again, want)
	}
}

// Texts that are read, of words at random: what is shown of them is read as the same.
func TestTextsOfWhatWasReadAreReadAgain(t *testing.T) {
	r := rand.New(rand.NewSource(9))
	words := []string{"x", "f", "A", "B", "1", "0", "999999999999999999", "(", ")", "(x)", "(A)", "\\x.", "let x=1 in", "case x of{A->1}", "case x of{A a b->1|B->", "}", "+", "*", "<", "-", "/", "=="}
	read := 0
	for range 30000 {
		s := ""
		for range 1 + r.Intn(8) {
			s += " " + pick(r, words...)
		}
		if got, _, e := parse.Parse(s, deepest); e == ok {
			read++
			checkWritten(t, got)
		}
	}
	if read < 1000 {
		t.Error("few are read:", read)
	}
}

// Places are of no moment to a text.

func TestPlacesAreOfNoMoment(t *testing.T) {
	r := rand.New(rand.NewSource(5))
	trees := []api.Tree{}
	for _, k := range eachKind() {
		for _, p := range eachPlace() {
			trees = append(trees, p.in(k.x))
		}
	}
	for i := range 2000 {
		trees = append(trees, likely(r, 1+i%30))
	}
	for _, x := range trees {
		want := show.Text(x)
		if want == "" {
			t.Errorf("Text(%v): nothing", x)
		}
		n := 0
		for _, next := range []func() int{
			func() int { return 0 },
			func() int { return 7 },
			func() int { return math.MaxInt },
			func() int { return r.Intn(longest) },
			func() int { n++; return n },
			func() int { n--; return max(n, 0) },
		} {
			checkText(t, places(x, next), want)
		}
		checkText(t, tree.Bare(places(x, func() int { return r.Intn(9) })), want)
		got, _, e := parse.Parse("  "+strings.ReplaceAll(want, " ", " \n "), deepest)
		if e == ok {
			checkText(t, got, want)
		}
		// But a place ahead of the text is none: such a tree may not be.
		checkNone(t, "places", places(x, func() int { return -1 }))
	}
}

// R1 to R5.

func TestGreatTrees(t *testing.T) {
	for _, c := range chains() {
		n := (levels - c.base) / c.more
		checkText(t, c.of(n), c.text(n))
	}
	// Wide, too: 8^6 numbers.
	wide, want := one, "1"
	for n := range 6 {
		s := want
		if n > 0 {
			s = "(" + want + ")"
		}
		wide, want = con("A", many(8, wide)...), "A"+strings.Repeat(" "+s, 8)
	}
	checkText(t, wide, want)
	// Whatever is wrong is so however deep it is.
	no := number(-1)
	for range levels - 1 {
		no = lam("x", no)
	}
	if got := show.Text(no); got != "" {
		t.Errorf("a number below 0, far in: %q", short(got))
	}
	checkNone(t, "wide", con("A", many(100000, one)...))
	checkNone(t, "wide", choice(one, many(100000, alt("A", one))...))
	checkNone(t, "a long name", variable(strings.Repeat("x", 1<<20)))
}

// No tree panics, whatever it has: these have anything anywhere.
func TestNoTreePanics(t *testing.T) {
	r := rand.New(rand.NewSource(6))
	some := 0
	for range 50000 {
		if x := anything(r, r.Intn(4)); (show.Text(x) != "") != tree.May(x) {
			t.Errorf("Text(%v): %q", x, show.Text(x))
		} else if tree.May(x) {
			some++
		}
	}
	if some < 200 {
		t.Error("few may be:", some)
	}
}

func anything(r *rand.Rand, deep int) api.Tree {
	x := api.Tree{
		Kind: r.Intn(12),
		Name: pick(r, "", "", "x", "A", "+", "\xff", "let", "x y"),
		N:    pick(r, 0, 0, 0, 1, 2, -1, math.MaxInt, math.MinInt),
		At:   pick(r, 0, 0, 0, 0, 1, -1, math.MinInt),
		L:    pick(r, nil, []api.Tree{}),
	}
	for range r.Intn(4) {
		if deep > 0 {
			x.L = append(x.L, anything(r, deep-1))
		}
	}
	return x
}

func TestArgumentsAreLeft(t *testing.T) {
	for _, k := range eachKind() {
		for _, p := range eachPlace() {
			// Behind a list's end nothing is written.
			x, want := roomy(p.in(k.x)), roomy(p.in(k.x))
			show.Text(x)
			if !reflect.DeepEqual(whole(x), whole(want)) {
				t.Errorf("Text changed %v: %v", want, x)
			}
		}
	}
}

// roomy is t with room behind its lists, in which something stands.
func roomy(t api.Tree) api.Tree {
	l := make([]api.Tree, 0, len(t.L)+2)
	for _, p := range t.L {
		l = append(l, roomy(p))
	}
	l = append(l, variable("behind"), number(-5))
	t.L = l[:len(t.L)]
	return t
}

// whole is t with what stands behind its lists' ends.
func whole(t api.Tree) api.Tree {
	l := []api.Tree{}
	for _, p := range t.L[:cap(t.L)] {
		l = append(l, whole(p))
	}
	t.L = l
	return t
}

func TestNothingIsKept(t *testing.T) {
	texts := map[string]api.Tree{"": number(-1)}
	for _, k := range eachKind() {
		texts[k.text] = k.x
	}
	for want, x := range texts {
		for other, y := range texts {
			checkText(t, y, other)
			checkText(t, x, want)
		}
	}
	var all sync.WaitGroup
	for want, x := range texts {
		all.Go(func() {
			for range 200 {
				checkText(t, x, want)
			}
		})
	}
	all.Wait()
}

func TestTextsShareNothingWithNames(t *testing.T) {
	for _, x := range []api.Tree{variable(strings.Clone("name")), con(strings.Clone("Name")), variable(strings.Clone("x"))} {
		s := show.Text(x)
		if s != x.Name || unsafe.StringData(s) == unsafe.StringData(x.Name) {
			t.Errorf("%q: the text is the name's memory, or another one", s)
		}
	}
}
