package scope_test

import (
	"maps"
	"math"
	"math/rand"
	"reflect"
	"slices"
	"strconv"
	"strings"
	"sync"
	"testing"

	"gossamer/api"
	"gossamer/parse"
	"gossamer/scope"
	"gossamer/tree"
)

// Kinds, limits and errors are written as numbers: the chapters tell them so.
const (
	ok       api.Errno = 0
	errArg   api.Errno = 1
	errName  api.Errno = 50
	errArity api.Errno = 51
	errTwice api.Errno = 52

	great  = 999999999999999999
	levels = 1 << 16

	name16 = "abcdefghijklmnop"
	con16  = "ABCDEFGHIJKLMNOP"
)

func variable(s string) api.Tree           { return api.Tree{Kind: 1, Name: s} }
func lam(s string, b api.Tree) api.Tree    { return api.Tree{Kind: 2, Name: s, L: []api.Tree{b}} }
func app(f, a api.Tree) api.Tree           { return api.Tree{Kind: 3, L: []api.Tree{f, a}} }
func let(s string, x, b api.Tree) api.Tree { return api.Tree{Kind: 4, Name: s, L: []api.Tree{x, b}} }
func rec(s string, x, b api.Tree) api.Tree { return api.Tree{Kind: 5, Name: s, L: []api.Tree{x, b}} }
func con(s string, l ...api.Tree) api.Tree { return api.Tree{Kind: 6, Name: s, L: l} }
func number(n int) api.Tree                { return api.Tree{Kind: 9, N: n} }
func op(s string, a, b api.Tree) api.Tree  { return api.Tree{Kind: 10, Name: s, L: []api.Tree{a, b}} }

func choice(x api.Tree, alts ...api.Tree) api.Tree {
	return api.Tree{Kind: 7, L: append([]api.Tree{x}, alts...)}
}

// alt is an alternative with as many variables as it has parts, less one.
func alt(s string, l ...api.Tree) api.Tree {
	return api.Tree{Kind: 8, Name: s, N: len(l) - 1, L: l}
}

// places is t, in which the places of trees are those that next tells.
func places(t api.Tree, next func() int) api.Tree {
	t.At, t.L = next(), slices.Clone(t.L)
	for i, p := range t.L {
		t.L[i] = places(p, next)
	}
	return t
}

// read is the tree of a text.
func read(t *testing.T, s string) api.Tree {
	t.Helper()
	x, at, e := parse.Parse(s, 200)
	if e != ok {
		t.Fatalf("Parse(%q): error %d at %d", s, e, at)
	}
	return x
}

func checkFreeOf(t *testing.T, what string, x api.Tree, want ...string) {
	t.Helper()
	if got := scope.Free(x); !slices.Equal(got, want) {
		t.Errorf("%s: Free: %q, not %q", what, got, want)
	}
}

// checkFree asks for the free names of a text; they are told with blanks between.
func checkFree(t *testing.T, s, want string) {
	t.Helper()
	checkFreeOf(t, s, read(t, s), strings.Fields(want)...)
}

// arities are told as names and numbers, with blanks between.
func arities(s string) []api.Arity {
	var l []api.Arity
	words := strings.Fields(s)
	for i := 0; i < len(words); i += 2 {
		n, _ := strconv.Atoi(words[i+1])
		l = append(l, api.Arity{Name: words[i], N: n})
	}
	return l
}

func checkConsOf(t *testing.T, what string, x api.Tree, want string) {
	t.Helper()
	if got := scope.Cons(x); !slices.Equal(got, arities(want)) {
		t.Errorf("%s: Cons: %v, not %s", what, got, want)
	}
}

// checkCons asks for the constructors of a text, behind True and False.
func checkCons(t *testing.T, s, want string) {
	t.Helper()
	checkConsOf(t, s, read(t, s), "True 0 False 0 "+want)
}

func checkOf(t *testing.T, what string, x api.Tree, at int, want api.Errno) {
	t.Helper()
	if n, e := scope.Check(x); n != at || e != want {
		t.Errorf("%s: Check: error %d at %d, not %d at %d", what, e, n, want, at)
	}
}

// checkFault asks for the fault of a text, at the place where ^ stands in it.
func checkFault(t *testing.T, s string, want api.Errno) {
	t.Helper()
	at := strings.IndexByte(s, '^')
	if at < 0 {
		t.Fatalf("%q has no place", s)
	}
	s = s[:at] + s[at+1:]
	checkOf(t, s, read(t, s), at, want)
}

func checkGood(t *testing.T, s string) {
	t.Helper()
	checkOf(t, s, read(t, s), 0, ok)
	checkFree(t, s, "")
}

// checkNothing asks for what may not be.
func checkNothing(t *testing.T, what string, x api.Tree) {
	t.Helper()
	if tree.May(x) {
		t.Errorf("%s may be", what)
	}
	checkFreeOf(t, what, x)
	checkConsOf(t, what, x, "")
	checkOf(t, what, x, 0, errArg)
}

// P5.1, Free: what binds a name, and where.

func TestVariablesAreFree(t *testing.T) {
	for _, s := range []string{"x", "z", "a0", "camelCase", "lets", "inn", name16} {
		checkFree(t, s, s)
		checkFree(t, s+" 1 ("+s+" + 2)", s)
	}
}

func TestNothingIsFree(t *testing.T) {
	for _, s := range []string{"1", "0", "Nil", "Cons 1 Nil", "1 + 2", "True", "case Nil of { Nil -> 1 }", "1 2", `\x. 1`, "let x = 1 in 2", "letrec x = 1 in 2"} {
		checkFree(t, s, "")
	}
}

func TestFunctionsBind(t *testing.T) {
	checkFree(t, `\x. x`, "")
	checkFree(t, `\x. y`, "y")
	checkFree(t, `\x. x y x`, "y")
	checkFree(t, `\x. \y. x y`, "")
	checkFree(t, `\x. \y. z`, "z")
	checkFree(t, `\x. A (1 + x) (case x of { B -> x }) (let y = x in letrec z = x in x)`, "")
	// Not out of it.
	checkFree(t, `(\x. x) x`, "x")
	checkFree(t, `x (\x. x)`, "x")
	checkFree(t, `A (\x. x) x`, "x")
	checkFree(t, `(\x. y) (\y. x)`, "x y")
	checkFree(t, `\`+name16+". "+name16, "")
	checkFree(t, `\`+name16+". "+name16[:15], name16[:15])
	checkFree(t, `\x. X x xX x1`, "x1 xX")
}

func TestLetsBind(t *testing.T) {
	checkFree(t, "let x = 1 in x", "")
	checkFree(t, "let x = 1 in y", "y")
	checkFree(t, "let x = x in 1", "x")
	checkFree(t, "let x = x in x", "x")
	checkFree(t, "let x = f x in x", "f x")
	checkFree(t, "let x = y in z", "y z")
	checkFree(t, `let x = \y. x in x`, "x")
	checkFree(t, "let x = 1 in let y = x in x y", "")
	checkFree(t, "let x = let y = 1 in y in y", "y")
	checkFree(t, "(let x = 1 in x) x", "x")
	checkFree(t, "(let x = 1 in x) + x", "x")
	checkFree(t, "A (let x = 1 in x) (let y = x in y)", "x")
}

func TestLetrecsBind(t *testing.T) {
	checkFree(t, "letrec x = 1 in x", "")
	checkFree(t, "letrec x = 1 in y", "y")
	checkFree(t, "letrec x = x in 1", "")
	checkFree(t, "letrec x = x in x", "")
	checkFree(t, `letrec f = \n. f (n - m) in f 3`, "m")
	checkFree(t, "letrec x = y in z", "y z")
	checkFree(t, "letrec x = letrec y = x in y in x y", "y")
	checkFree(t, "(letrec x = x in x) x", "x")
	checkFree(t, "(letrec x = x in x) + x", "x")
}

func TestAlternativesBind(t *testing.T) {
	checkFree(t, "case Nil of { Cons h t -> h }", "")
	checkFree(t, "case Nil of { Cons h t -> t }", "")
	checkFree(t, "case Nil of { Cons h t -> x }", "x")
	checkFree(t, "case Nil of { Cons h t -> f h t }", "f")
	// The variables are none that could be free.
	checkFree(t, "case Nil of { Cons h t -> 1 }", "")
	checkFree(t, "case Nil of { A a b c d e f g h -> 1 }", "")
	for i := range 8 {
		checkFree(t, "case Nil of { A a b c d e f g h -> "+"abcdefgh"[i:i+1]+" }", "")
	}
	checkFree(t, "case Nil of { A a b c d e f g h -> A a b c d e f g i }", "i")
	checkFree(t, "case Nil of { A x x -> x }", "")
	// Not in what is looked at, and not in other alternatives.
	checkFree(t, "case x of { A x -> x }", "x")
	checkFree(t, "case h t of { Cons h t -> h t }", "h t")
	checkFree(t, "case Nil of { A x -> x | B y -> x }", "x")
	checkFree(t, "case Nil of { A x -> y | B y -> y }", "y")
	checkFree(t, "case Nil of { A x -> 1 | B -> x | C x -> x }", "x")
	checkFree(t, "case Nil of { A x -> case x of { B y -> x y } | C -> y }", "y")
	checkFree(t, "case (case Nil of { A x -> x }) of { B -> x }", "x")
	checkFree(t, "(case Nil of { A x -> x }) x", "x")
}

func TestOthersBindNothing(t *testing.T) {
	checkFree(t, "f x", "f x")
	checkFree(t, "x x", "x")
	checkFree(t, "A x y", "x y")
	checkFree(t, "A a b c d e f g h", "a b c d e f g h")
	for _, s := range []string{"+", "-", "*", "/", "<", "=="} {
		checkFree(t, "x "+s+" y", "x y")
		checkFree(t, "x "+s+" x", "x")
	}
	checkFree(t, "case x of { A -> y | B -> z }", "x y z")
	checkFree(t, "case x of { A -> 1 | B -> 2 | C -> 3 | D -> 4 | E -> 5 | F -> 6 | G -> 7 | H -> y }", "x y")
}

func TestBoundAgainFurtherIn(t *testing.T) {
	// Behind the inner one the outer one still binds.
	for _, outer := range []string{`\x. %`, "let x = 1 in %", "letrec x = % in 1", "letrec x = 1 in %", "case Nil of { A x -> % }", "case Nil of { A y x -> % }"} {
		for _, inner := range []string{`(\x. x) x`, "(let x = 1 in x) x", "(let x = x in x) x", "(letrec x = x in x) x", "(case x of { A x -> x | B x x -> x | C -> x }) x", `A (\x. \x. x) x`, `(\x. (\x. x) x) x`} {
			s := strings.ReplaceAll(outer, "%", inner)
			checkFree(t, s, "")
			checkFree(t, "f ("+s+")", "f")
			checkFree(t, "f ("+s+") x", "f x")
			checkFree(t, strings.ReplaceAll(outer, "%", inner+" z"), "z")
		}
	}
	checkFree(t, `let x = \x. x in x`, "")
	checkFree(t, `let x = (\x. x) x in x`, "x")
	checkFree(t, `\x. let x = x in x`, "")
	checkFree(t, `(\x. \y. x y z) (\y. \z. x y z)`, "x z")
}

func TestFreeNamesOnceAndRising(t *testing.T) {
	checkFree(t, "x x x", "x")
	checkFree(t, "x y x y x", "x y")
	checkFree(t, `x (\x. x) (let x = x in x) x`, "x")
	checkFree(t, "c b a", "a b c")
	checkFree(t, "A z (y + b) (a c)", "a b c y z")
	// Byte by byte: digits ahead of A to Z, these ahead of a to z, what is shorter ahead of what goes on.
	checkFree(t, "b az aa aZ aA a9 a0 a", "a a0 a9 aA aZ aa az b")
	checkFree(t, "x2 x10 x1 x", "x x1 x10 x2")
	checkFree(t, "zz z aaa aa", "aa aaa z zz")
	checkFree(t, "ab aB", "aB ab")
	checkFree(t, name16+" "+name16[:15]+" b a", "a "+name16[:15]+" "+name16+" b")
}

func TestManyFreeNames(t *testing.T) {
	var want []string
	x := number(1)
	for i := range 3000 {
		s := "x" + strconv.Itoa(i*7919%3000)
		want = append(want, s)
		x = app(app(x, variable(s)), lam(s, variable(s)))
	}
	slices.Sort(want)
	checkFreeOf(t, "many", x, want...)
	for _, s := range want {
		x = lam(s, x)
	}
	checkFreeOf(t, "many, bound", x)
	checkOf(t, "many, bound", x, 0, ok)
}

// P5.1, Cons.

func TestTrueAndFalseAreAlwaysThere(t *testing.T) {
	for _, s := range []string{"1", "x", "True", "False", `\x. x`, "1 < 2", "f True False", "f False True False", "case 1 < 2 of { False -> 1 | True -> 2 }", "let x = True in x"} {
		checkCons(t, s, "")
	}
	checkCons(t, "A False True", "A 2")
	// Whatever there is of them, they have no parts.
	checkCons(t, "True 1", "")
	checkCons(t, "False 1 2", "")
	checkCons(t, "case x of { True a -> False a a }", "")
}

func TestConstructors(t *testing.T) {
	checkCons(t, "Nil", "Nil 0")
	checkCons(t, con16, con16+" 0")
	checkCons(t, "Cons 1 Nil", "Cons 2 Nil 0")
	for n := range 9 {
		s := strconv.Itoa(n)
		checkCons(t, "A"+strings.Repeat(" x", n), "A "+s)
		checkCons(t, "case x of { A"+strings.Repeat(" x", n)+" -> x }", "A "+s)
	}
	checkCons(t, "(A) 1 2", "A 0")
	checkCons(t, "(A 1) 2", "A 1")
	checkCons(t, "case x of { A y -> z | B -> z | C x y -> z }", "A 1 B 0 C 2")
	checkCons(t, "TRUE", "TRUE 0")
	checkCons(t, "A (AA 1) A1", "A 2 AA 1 A1 0")
}

func TestConstructorsAreToldInOrder(t *testing.T) {
	// A tree itself, and then its parts.
	checkCons(t, "B A C", "B 2 A 0 C 0")
	checkCons(t, "D (C (B A)) E", "D 2 C 1 B 1 A 0 E 0")
	checkCons(t, "f B A", "B 0 A 0")
	checkCons(t, "B + A * C", "B 0 A 0 C 0")
	checkCons(t, "(B < A) == C", "B 0 A 0 C 0")
	checkCons(t, `\x. \y. f (B x) (A y)`, "B 1 A 1")
	checkCons(t, "let x = B in A", "B 0 A 0")
	checkCons(t, "letrec x = B in A", "B 0 A 0")
	// What is looked at, and then alternative by alternative: its name, and its body.
	checkCons(t, "case D of { C x -> B | A -> E 1 }", "D 0 C 1 B 0 A 0 E 1")
	checkCons(t, "case case D of { C -> B } of { A -> case F of { E -> G } }", "D 0 C 0 B 0 A 0 F 0 E 0 G 0")
	checkCons(t, "A (case C of { B -> D }) E", "A 2 C 0 B 0 D 0 E 0")
}

func TestEachConstructorOnce(t *testing.T) {
	checkCons(t, "A A A", "A 2")
	checkCons(t, "f A B A B", "A 0 B 0")
	checkCons(t, "case A of { A -> B | B -> A }", "A 0 B 0")
	// How many it has is told where it is met first.
	checkCons(t, "A (A 1 2) (A 3) A", "A 3")
	checkCons(t, "f A (A 1)", "A 0")
	checkCons(t, "f (A 1) A", "A 1")
	checkCons(t, "case A 1 of { A -> A 1 2 }", "A 1")
	checkCons(t, "case x of { A -> A 1 2 }", "A 0")
	checkCons(t, "case x of { A y z -> 1 | A -> 2 | B -> 3 | A y -> A }", "A 2 B 0")
	checkCons(t, "f (case x of { A y z -> 1 }) (A 1)", "A 2")
}

func TestManyConstructors(t *testing.T) {
	want := "True 0 False 0"
	x := number(1)
	for i := range 3000 {
		x = con("A"+strconv.Itoa(2999-i), x)
		want += " A" + strconv.Itoa(i) + " 1"
	}
	checkConsOf(t, "many", app(x, x), want)
	checkOf(t, "many", app(x, x), 0, ok)
}

// P5.2: each error, at its place.

func TestWhatIsGood(t *testing.T) {
	for _, s := range []string{
		"1", "True", "False", "Nil", `\x. x`, "let x = 1 in x", "letrec x = x in x", "1 + 2 < 3",
		"let x = 2 * 3 in Cons x x", `(\x. x x) (\x. x x)`, "1 / 0", "1 2", "(A) 1 2", "(True) 1",
		`letrec map = \f. \l. case l of { Nil -> Nil | Cons h t -> Cons (f h) (map f t) } in map (\x. x + 1) (Cons 1 Nil)`,
		"case 1 < 2 of { True -> 1 | False -> 2 }", "case True of { False -> 2 | True -> 1 }", "case 1 of { True -> 1 }",
		"case Nil of { A a b c d e f g h -> A h g f e d c b a }",
		`\x. \x. x`, "let x = 1 in let x = x in x", "letrec x = letrec x = x in x in x",
		"case 1 of { A x -> case x of { A x -> x } }", `\x. case x of { A x -> \x. x }`,
	} {
		checkOf(t, s, read(t, s), 0, ok)
		checkFree(t, s, "")
	}
}

func TestFreeVariablesAreFaults(t *testing.T) {
	for _, s := range []string{
		"^x", " \n\t^x", `\x. ^y`, `\x. x ^y`, `(\x. x) ^x`, `\x. (\y. y) ^y`,
		"let x = ^x in x", "let x = 1 in x + ^y", "let x = ^y in x", "(let x = 1 in x) ^x",
		"letrec x = x in x (x ^y)", "letrec x = ^y in x", "(letrec x = x in x) ^x",
		"case ^x of { A x -> x }", "case 1 of { A x -> x | B y -> y ^x }", "case 1 of { A x -> x | B y -> ^x }", "case 1 of { A x y -> ^z }",
		"A 1 (B ^x)", "1 == ^x", "1 ^x", "case (^x) of { A -> 1 }", "1 (((^x)))",
		// The first one of several.
		"^x y", "^y x y", `\x. x (x ^z) y z`, "A (B 1 ^x) y", "let x = ^y in z", "letrec x = ^y in z",
		"case ^y of { A -> x }", "case 1 of { A x -> ^y | B -> x }", "case 1 of { A -> 1 | B x -> ^y z }",
	} {
		checkFault(t, s, errName)
	}
}

func TestOtherAritiesAreFaults(t *testing.T) {
	for _, s := range []string{
		"1 A (^A 1)", "1 (A 1) ^A", "A (^A 1 2)", "A ^A", "1 A A A (^A 1) A (A 1)", "1 (A 1) (^A 1 2) A", "1 (B A) (^A B)",
		"A + (^A 1)", `(\x. A x) ^A`, "1 A (1 (^A A))",
		"let x = A in ^A x", "letrec x = A x in ^A", `letrec x = \y. A y in x (x ^A)`,
		// Alternatives, held against constructors, and against each other.
		"case A 1 of { ^A -> 1 }", "case A of { B -> 1 | ^A x -> x }", "case 1 of { A x -> ^A }", "case 1 of { A -> ^A 1 }",
		"case 1 of { A x y -> A 1 2 | B -> ^A 1 }", "case A of { A -> case 1 of { ^A x -> 1 } }",
		"1 (case 1 of { A -> 1 }) (case 1 of { ^A x -> 1 })", "case (case 1 of { A x -> 1 }) of { ^A -> 1 }",
		// True and False have no parts, wherever they are met.
		"^True 1", "^False 1 2", "1 True (^True 1)", "1 (^True 1) True", "case 1 of { ^True x -> 1 }", "case 1 of { False -> 1 | ^True x y -> 1 }",
		"case 1 < 2 of { True -> ^False 1 | False -> 1 }",
	} {
		checkFault(t, s, errArity)
	}
}

// parts tells as many parts, or variables.
func parts(n int) string { return " a b c d e f g h"[:2*n] }

func TestEachArityAndEachOther(t *testing.T) {
	all := `\a. \b. \c. \d. \e. \f. \g. \h. `
	for n := range 9 {
		for m := range 9 {
			for _, s := range []string{
				"1 (A%) (^A&)",
				"case A% of { ^A& -> 1 }",
				"case 1 of { A% -> ^A& }",
				"1 (case 1 of { A% -> 1 }) (case 1 of { ^A& -> 1 })",
			} {
				s = all + strings.NewReplacer("%", parts(n), "&", parts(m)).Replace(s)
				if n != m {
					checkFault(t, s, errArity)
					continue
				}
				s = strings.ReplaceAll(s, "^", "")
				checkOf(t, s, read(t, s), 0, ok)
			}
		}
	}
}

func TestTwinsAreFaults(t *testing.T) {
	for _, s := range []string{
		// Of variables.
		"case 1 of { ^A x x -> 1 }", "case 1 of { ^A x y x -> 1 }", "case 1 of { ^A y x x -> x }", "case 1 of { A x -> 1 | ^B y y -> 1 }",
		"case 1 of { ^A a b c d e f g a -> 1 }", "case 1 of { ^A a b c d e f g g -> 1 }", "case 1 of { ^A x x -> 1 | B y y -> 1 }",
		"case 1 of { A x -> case x of { ^B y y -> 1 } }", "case 1 of { ^A x x x -> 1 }",
		// Of alternatives.
		"case 1 of { A -> 1 | ^A -> 2 }", "case 1 of { A -> 1 | B -> 2 | ^A -> 3 }", "case 1 of { B -> 1 | A x -> 2 | ^A x -> 3 }",
		"case 1 of { A x -> x | ^A y -> y }", "case 1 of { True -> 1 | ^True -> 2 }", "case 1 of { A -> 1 | ^A -> 2 | A -> 3 }",
		"case 1 of { A -> 1 | B -> 2 | C -> 3 | D -> 4 | E -> 5 | F -> 6 | G -> 7 | ^A -> 8 }",
		"case 1 of { A -> 1 | B -> 2 | C -> 3 | D -> 4 | E -> 5 | F -> 6 | G -> 7 | ^G -> 8 }",
		"case 1 of { A -> case 1 of { A -> 1 } | ^A -> 2 }", "case 1 of { A -> case 1 of { A -> 1 | ^A -> 1 } | A -> 2 }",
		"case 1 of { A -> case 1 of { B -> 1 } | B -> case 1 of { B -> 1 | ^B -> 2 } }",
		"case A 1 of { A x -> A x | ^A x -> 1 }",
		// Both at one place.
		"case 1 of { A x y -> 1 | ^A z z -> 1 }", "case 1 of { ^A x x -> 1 | A x x -> 1 }",
	} {
		checkFault(t, s, errTwice)
	}
}

func TestWhatIsNoTwin(t *testing.T) {
	for _, s := range []string{
		// A case that is a part of another one has its own alternatives.
		"case 1 of { A -> case 1 of { A -> 1 } }", "case 1 of { A -> case 1 of { A -> 1 } | B -> case 1 of { A -> 1 | B -> 2 } }",
		"case (case 1 of { A -> 1 | B -> 2 }) of { A -> 1 | B -> 2 }", "1 (case 1 of { A -> 1 }) (case 1 of { A -> 1 })",
		"case A of { A -> A }", "case A of { B -> A | A -> B }",
		// What is bound further out, or elsewhere, may be bound again.
		"case 1 of { A x -> 1 | B x -> 2 }", "case 1 of { A x -> case 1 of { A x -> 1 } }", `\x. case x of { A x -> \x. x }`,
		"case 1 of { A x y -> 1 | B y x -> 2 }",
		// Parts that are alike are no twins.
		`\x. A x x x`, "A B B", "1 A A", `\x. x x`, "case 1 of { A x -> B x x | C -> 1 }",
	} {
		checkOf(t, s, read(t, s), 0, ok)
	}
}

// Which error is told, where several hold.

func TestTheFirstFaultIsTold(t *testing.T) {
	bad := []struct {
		s string
		e api.Errno
	}{
		{"1 ^x", errName},
		{`\y. (\x. x y) ^x`, errName},
		{"case 1 of { P -> ^P 1 }", errArity},
		{"1 (Q 1) ^Q", errArity},
		{"^True 1", errArity},
		{"case 1 of { ^R x x -> 1 }", errTwice},
		{"case 1 of { S -> 1 | ^S -> 1 }", errTwice},
	}
	for _, a := range bad {
		for _, b := range bad {
			for _, s := range []string{
				"1 (%) (&)", "M (%) (&)", "(%) + (&)", "(%) < (&)", "let z = % in &", "letrec z = % in &",
				"case % of { M -> & }", "case 1 of { M -> % | N -> & }", "case 1 of { M z -> 1 (%) | N -> 1 | O z -> & }",
				`\z. \y. z (%) (\z. &)`, "case (%) of { M -> 1 | N -> & }",
				// The second one is in what holds the first one.
				"case 1 of { M -> & | N -> 1 (%) (&) }",
			} {
				first := a
				if strings.HasPrefix(s, "case 1 of { M -> &") {
					first = b
				}
				s = strings.NewReplacer("%", a.s, "&", b.s).Replace(s)
				at := strings.IndexByte(s, '^')
				checkFault(t, s[:at+1]+strings.ReplaceAll(s[at:], "^", ""), first.e)
			}
		}
	}
}

func TestTheFaultOfATreeIsToldAheadOfItsParts(t *testing.T) {
	for s, e := range map[string]api.Errno{
		"^True x":                                 errArity,
		"1 A (^A x)":                              errArity,
		"1 A (^A (A x))":                          errArity,
		"case A of { ^A x -> y }":                 errArity,
		"case 1 of { ^A x x -> y }":               errTwice,
		"case 1 of { ^A x x -> A }":               errTwice,
		"case 1 of { A -> 1 | ^A -> y }":          errTwice,
		"case 1 of { A -> 1 | ^A -> A 1 }":        errTwice,
		"case 1 of { ^A x x -> 1 | B -> z }":      errTwice,
		"case 1 of { A -> 1 | ^A -> 2 | B -> y }": errTwice,
		// But behind what was met ahead.
		"case ^y of { A x x -> 1 }":                          errName,
		"case 1 of { A -> ^y | A -> 1 }":                     errName,
		"case 1 of { A -> ^A 1 | A -> 1 }":                   errArity,
		"case 1 of { A -> 1 | B -> ^y | A -> 1 }":            errName,
		"case (case 1 of { ^A x x -> 1 }) of { B x x -> 1 }": errTwice,
	} {
		checkFault(t, s, e)
	}
}

// At one place an arity is told ahead of twins.
func TestArityIsToldAheadOfTwins(t *testing.T) {
	for _, s := range []string{
		"case A of { ^A x x -> 1 }", "case A 1 2 3 of { ^A x x -> 1 }", "case 1 of { A x -> A 1 | ^A x x -> 1 }",
		"case 1 of { A -> 1 | ^A x -> 2 }", "case 1 of { A x -> 1 | ^A -> 2 }", "case 1 of { A -> 1 | B -> 2 | ^A x -> 3 }",
		"case 1 of { ^True x x -> 1 }", "case 1 of { True -> 1 | ^True x -> 1 }", "case 1 of { True -> 1 | ^True x x -> 1 }",
		"case 1 of { A x y -> 1 | ^A x x x -> 1 }",
	} {
		checkFault(t, s, errArity)
	}
}

// at is t, a tree without parts or with them, at that place.
func at(n int, t api.Tree) api.Tree {
	t.At = n
	return t
}

// Which one is first hangs on how a tree is gone through, not on places; they may be anything.
func TestPlacesThatDoNotRise(t *testing.T) {
	x, a, a1 := variable("x"), con("A"), con("A", number(1))
	checkOf(t, "falling", app(at(9, x), at(3, variable("y"))), 9, errName)
	checkOf(t, "all one", app(at(5, number(1)), at(5, x)), 5, errName)
	checkOf(t, "none", app(number(1), x), 0, errName)
	checkOf(t, "greatest", at(math.MaxInt, x), math.MaxInt, errName)
	checkOf(t, "falling", at(1, app(app(at(9, a), at(8, a1)), at(7, a1))), 8, errArity)
	checkOf(t, "arity ahead of name", app(app(at(9, a), at(8, a1)), at(2, x)), 8, errArity)
	checkOf(t, "name ahead of arity", app(at(9, x), app(at(2, a), at(1, a1))), 9, errName)
	c := choice(at(90, number(1)),
		at(80, alt("A", at(60, number(1)))),
		at(70, alt("B", at(69, variable("y")), at(68, variable("y")), at(50, x))),
		at(65, alt("A", at(40, number(1)))))
	checkOf(t, "of variables", at(99, c), 70, errTwice)
	c.L[2].L[1].Name = "z"
	checkOf(t, "of a body", at(99, c), 50, errName)
	c.L[2].L[2] = number(1)
	checkOf(t, "of alternatives", at(99, c), 65, errTwice)
	c.L[3] = at(66, alt("A", at(41, variable("y")), number(1)))
	checkOf(t, "of alternatives, and their arities", at(99, c), 66, errArity)
	checkOf(t, "good", at(99, lam("x", at(98, x))), 0, ok)
}

// What may not be.

func none() map[string]api.Tree {
	one, x := number(1), variable("x")
	off := at(-1, one)
	return map[string]api.Tree{
		"nothing":                        {},
		"no kind":                        {Kind: 11, Name: "x"},
		"no kind below 0":                {Kind: -1},
		"an alternative":                 alt("A", x),
		"an alternative of variables":    alt("A", x, x, x),
		"a number below 0":               number(-1),
		"a great number":                 number(great + 1),
		"a variable without a name":      variable(""),
		"a word":                         variable("let"),
		"a constructor for a variable":   variable("A"),
		"a long name":                    variable(name16 + "q"),
		"a great name":                   variable(strings.Repeat("x", 1<<20)),
		"a variable with a part":         {Kind: 1, Name: "x", L: []api.Tree{one}},
		"a function of nothing":          {Kind: 2, Name: "x"},
		"a function of two":              {Kind: 2, Name: "x", L: []api.Tree{x, x}},
		"a function of a constructor":    lam("A", x),
		"applied to nothing":             {Kind: 3, L: []api.Tree{x}},
		"a let without a body":           {Kind: 4, Name: "x", L: []api.Tree{x}},
		"a let of three":                 {Kind: 4, Name: "x", L: []api.Tree{x, x, x}},
		"a let without a name":           let("", x, x),
		"a letrec without parts":         {Kind: 5, Name: "x", L: []api.Tree{}},
		"a letrec of a sign":             rec("+", x, x),
		"a constructor of 9":             con("A", slices.Repeat([]api.Tree{x}, 9)...),
		"a constructor of many":          con("A", slices.Repeat([]api.Tree{x}, 100000)...),
		"a small constructor":            con("a"),
		"a case without parts":           {Kind: 7},
		"a case without alternatives":    choice(x),
		"a case of 9":                    choice(x, slices.Repeat([]api.Tree{alt("A", one)}, 9)...),
		"a case of no alternative":       choice(x, x),
		"a case of an alternative":       choice(alt("A", x), alt("A", x)),
		"an alternative without a body":  choice(x, api.Tree{Kind: 8, Name: "A"}),
		"fewer variables than are told":  choice(x, api.Tree{Kind: 8, Name: "A", N: 2, L: []api.Tree{x, x}}),
		"more variables than are told":   choice(x, api.Tree{Kind: 8, Name: "A", N: 0, L: []api.Tree{x, x}}),
		"variables that are told wrong":  choice(x, api.Tree{Kind: 8, Name: "A", N: math.MinInt, L: []api.Tree{x, x}}),
		"a very great number of them":    choice(x, api.Tree{Kind: 8, Name: "A", N: math.MaxInt, L: []api.Tree{x, x}}),
		"a number for a variable":        choice(x, alt("A", one, x)),
		"an alternative for a variable":  choice(x, alt("A", alt("B", x), x)),
		"an alternative for a body":      choice(x, alt("A", alt("B", x))),
		"an alternative that is small":   choice(x, alt("a", x)),
		"an operator of one":             {Kind: 10, Name: "+", L: []api.Tree{x}},
		"an operator without a name":     op("", x, x),
		"no operator":                    op("=", x, x),
		"a place ahead of the text":      at(-1, x),
		"one that has such a place":      lam("x", off),
		"a variable of N":                {Kind: 1, Name: "x", N: 1},
		"a constructor of N":             {Kind: 6, Name: "A", N: 1, L: []api.Tree{x}},
		"a constructor of no N":          {Kind: 6, Name: "A", N: -1},
		"a constructor with alternative": con("A", alt("B", x)),
	}
}

func TestWhatMayNotBe(t *testing.T) {
	one, x := number(1), variable("x")
	for what, no := range none() {
		checkNothing(t, what, no)
		for place, in := range map[string]api.Tree{
			" in a function":     lam("x", no),
			" that is applied":   app(no, x),
			" to which it is":    app(x, no),
			" in a let":          let("x", no, x),
			" behind a let":      let("x", x, no),
			" in a letrec":       rec("x", no, x),
			" behind a letrec":   rec("x", x, no),
			" in a con":          con("A", con("A"), no),
			" in a case":         choice(no, alt("A", x)),
			" in an alternative": choice(x, alt("A", x), alt("A", x, x, no)),
			" on the left":       op("+", no, x),
			" on the right":      op("<", x, no),
			" far in":            app(x, lam("y", con("True", choice(one, alt("A", one), alt("A", let("x", no, one)))))),
			" behind faults":     app(app(x, con("True", one)), app(choice(one, alt("A", x, x, one)), no)),
		} {
			checkNothing(t, what+place, in)
		}
	}
}

// P5.1 and P5.2, held against a reading that is made otherwise: free names from the inside to the outside, all that is met as a list.

// freeIn are the names that are free, in sets.
func freeIn(x api.Tree) map[string]bool {
	all := map[string]bool{}
	add := func(p api.Tree, but ...api.Tree) {
		for s := range freeIn(p) {
			if !slices.ContainsFunc(but, func(b api.Tree) bool { return b.Name == s }) {
				all[s] = true
			}
		}
	}
	switch x.Kind {
	case 1:
		all[x.Name] = true
	case 2:
		add(x.L[0], x)
	case 4:
		add(x.L[0])
		add(x.L[1], x)
	case 5:
		add(x.L[0], x)
		add(x.L[1], x)
	case 8:
		add(x.L[x.N], x.L[:x.N]...)
	default:
		for _, p := range x.L {
			add(p)
		}
	}
	return all
}

// met is a tree, with the names that are bound there, and the alternatives ahead of it.
type met struct {
	x     api.Tree
	bound []string
	ahead []api.Tree
}

func gone(m met) []met {
	l := []met{m}
	x := m.x
	for i, p := range x.L {
		n := met{x: p, bound: slices.Clone(m.bound)}
		switch x.Kind {
		case 2, 5:
			n.bound = append(n.bound, x.Name)
		case 4:
			if i == 1 {
				n.bound = append(n.bound, x.Name)
			}
		case 7:
			if i > 0 {
				n.ahead = x.L[1:i]
			}
		case 8:
			if i < x.N {
				continue
			}
			for _, v := range x.L[:x.N] {
				n.bound = append(n.bound, v.Name)
			}
		}
		l = append(l, gone(n)...)
	}
	return l
}

// has is how many parts or variables a constructor or an alternative has; of others -1.
func has(x api.Tree) int {
	switch x.Kind {
	case 6:
		return len(x.L)
	case 8:
		return len(x.L) - 1
	}
	return -1
}

// firstArity is what is told of a name, by the first of what is met.
func firstArity(l []met, name string) int {
	if name == "True" || name == "False" {
		return 0
	}
	i := slices.IndexFunc(l, func(m met) bool { return has(m.x) >= 0 && m.x.Name == name })
	return has(l[i].x)
}

func isTwice(m met) bool {
	if m.x.Kind != 8 {
		return false
	}
	for i, v := range m.x.L[:m.x.N] {
		for _, w := range m.x.L[:i] {
			if v.Name == w.Name {
				return true
			}
		}
	}
	return slices.ContainsFunc(m.ahead, func(a api.Tree) bool { return a.Name == m.x.Name })
}

func firstFault(x api.Tree) (int, api.Errno) {
	l := gone(met{x: x})
	for _, m := range l {
		switch {
		case m.x.Kind == 1 && !slices.Contains(m.bound, m.x.Name):
			return m.x.At, errName
		case has(m.x) >= 0 && has(m.x) != firstArity(l, m.x.Name):
			return m.x.At, errArity
		case isTwice(m):
			return m.x.At, errTwice
		}
	}
	return 0, ok
}

func consOf(x api.Tree) string {
	l := gone(met{x: x})
	told := []string{"True", "False"}
	s := "True 0 False 0"
	for _, m := range l {
		if has(m.x) >= 0 && !slices.Contains(told, m.x.Name) {
			told = append(told, m.x.Name)
			s += " " + m.x.Name + " " + strconv.Itoa(firstArity(l, m.x.Name))
		}
	}
	return s
}

func pick[T any](r *rand.Rand, l ...T) T { return l[r.Intn(len(l))] }

// maker makes trees at random: of names that are bound, more often than not, and of constructors that have their own arities so.
type maker struct {
	*rand.Rand
	care int // one of so many names is any name, one of so many constructors has any number of parts
}

func (r maker) name(bound []string) string {
	if len(bound) == 0 || r.Intn(r.care) == 0 {
		return pick(r.Rand, "x", "y", "z", "w")
	}
	return pick(r.Rand, bound...)
}

// con tells a constructor, and how many parts it has.
func (r maker) con() (string, int) {
	i := r.Intn(6)
	n := []int{0, 1, 2, 3, 0, 0}[i]
	if r.Intn(r.care) == 0 {
		n = r.Intn(4)
	}
	return []string{"A", "B", "C", "D", "True", "False"}[i], n
}

func (r maker) tree(deep int, bound ...string) api.Tree {
	x := api.Tree{Kind: pick(r.Rand, 1, 2, 3, 4, 5, 6, 6, 7, 7, 10), At: r.Intn(1000000)}
	if deep == 0 {
		x.Kind = pick(r.Rand, 1, 1, 6, 9)
	}
	bound = slices.Clip(bound)
	part := func(names ...string) {
		if deep == 0 {
			x.L = append(x.L, number(1))
			return
		}
		x.L = append(x.L, r.tree(deep-1, append(bound, names...)...))
	}
	own := pick(r.Rand, "x", "y", "z")
	switch x.Kind {
	case 1:
		if x.Name = r.name(bound); len(bound) == 0 && r.care > 1 && r.Intn(r.care) > 0 {
			x = number(1)
		}
	case 2:
		x.Name = own
		part(own)
	case 4:
		x.Name = own
		part()
		part(own)
	case 5:
		x.Name = own
		part(own)
		part(own)
	case 6:
		var n int
		x.Name, n = r.con()
		for range n {
			part()
		}
	case 7:
		part()
		for range 1 + r.Intn(3) {
			x.L = append(x.L, r.alt(x, max(deep-1, 0), bound...))
		}
	case 3, 10:
		if x.Kind == 10 {
			x.Name = pick(r.Rand, "+", "-", "*", "/", "<", "==")
		}
		part()
		part()
	}
	return x
}

// alt is one more alternative of x.
func (r maker) alt(x api.Tree, deep int, bound ...string) api.Tree {
	a := api.Tree{Kind: 8, At: r.Intn(1000000)}
	isThere := func(p api.Tree) bool { return p.Kind == 8 && p.Name == a.Name }
	a.Name, a.N = r.con()
	for r.Intn(r.care) > 0 && slices.ContainsFunc(x.L, isThere) {
		a.Name, a.N = r.con()
	}
	bound = slices.Clip(bound)
	names := []string{"x", "y", "z"}
	r.Shuffle(3, func(i, j int) { names[i], names[j] = names[j], names[i] })
	for i := range a.N {
		s := names[i]
		if r.Intn(r.care) == 0 {
			s = names[0]
		}
		a.L = append(a.L, at(r.Intn(1000000), variable(s)))
		bound = append(bound, s)
	}
	a.L = append(a.L, r.tree(deep, bound...))
	return a
}

func checkAgainst(t *testing.T, x api.Tree) api.Errno {
	t.Helper()
	what := "a tree at random"
	before := t.Failed()
	checkFreeOf(t, what, x, slices.Sorted(maps.Keys(freeIn(x)))...)
	checkConsOf(t, what, x, consOf(x))
	n, e := firstFault(x)
	checkOf(t, what, x, n, e)
	if t.Failed() && !before {
		t.Logf("the first one: %v", x)
	}
	return e
}

func TestTreesAtRandom(t *testing.T) {
	told := map[api.Errno]int{}
	for i := range 15000 {
		r := maker{rand.New(rand.NewSource(int64(i))), pick(rand.New(rand.NewSource(int64(i))), 2, 5, 20, 200)}
		x := r.tree(i % 6)
		if !tree.May(x) {
			t.Fatalf("%v may not be", x)
		}
		told[checkAgainst(t, x)]++
	}
	for _, e := range []api.Errno{ok, errName, errArity, errTwice} {
		if told[e] < 500 {
			t.Error("too few of a sort", told)
		}
	}
}

// P5.3.

// closed is x within functions of its free names.
func closed(x api.Tree) api.Tree {
	for _, s := range scope.Free(x) {
		x = lam(s, x)
	}
	return x
}

func TestWhatIsCheckedHasNoFreeNames(t *testing.T) {
	good, bound := 0, 0
	for i := range 20000 {
		r := maker{rand.New(rand.NewSource(int64(i))), 2 + i%40}
		x := r.tree(i % 5)
		n, e := scope.Check(x)
		free := scope.Free(x)
		if e == ok {
			good++
			checkFreeOf(t, "checked", x)
		}
		if len(free) > 0 && e == ok || len(free) == 0 && e == errName {
			t.Errorf("Check: error %d at %d; Free: %q", e, n, free)
		}
		// Bound by functions, nothing is free: of other errors the first one is told, or none.
		c := closed(x)
		checkFreeOf(t, "bound", c)
		m, f := scope.Check(c)
		if f == errName || e != errName && (m != n || f != e) {
			t.Errorf("Check, bound: error %d at %d, not %d at %d", f, m, e, n)
		}
		if f == ok && e == errName {
			bound++
		}
		// What functions bind is all that is free within them.
		var names []string
		for c.Kind == 2 {
			names, c = append(names, c.Name), c.L[0]
			for _, name := range scope.Free(c) {
				if !slices.Contains(names, name) {
					t.Errorf("Free of a part: %q, that %q do not bind", name, names)
				}
			}
		}
	}
	if good < 1000 || bound < 1000 {
		t.Error("too few of a sort", good, bound)
	}
}

func TestFreeNamesThatAreBound(t *testing.T) {
	for _, s := range []string{"x", "x y", "f (g x) + h", "let x = x in x", "case x of { A x -> x | B -> y }", "letrec x = y in z", "A x (B y)"} {
		x := read(t, s)
		free := scope.Free(x)
		for i, name := range free {
			if _, e := scope.Check(x); e != errName {
				t.Errorf("%s: error %d", s, e)
			}
			checkFreeOf(t, s, x, free[i:]...)
			x = lam(name, x)
		}
		checkFreeOf(t, s, x)
		checkOf(t, s, x, 0, ok)
	}
}

// Places are of no moment to what is free, and to which constructors there are.

func TestPlacesAreOfNoMoment(t *testing.T) {
	for i := range 1000 {
		r := maker{rand.New(rand.NewSource(int64(i))), 3}
		x := r.tree(i % 5)
		free, cons := scope.Free(x), consOf(x)
		_, e := scope.Check(x)
		n := 0
		for _, next := range []func() int{
			func() int { return 0 },
			func() int { return 7 },
			func() int { return math.MaxInt },
			func() int { return r.Intn(10) },
			func() int { n++; return n },
			func() int { n--; return n + 1<<32 },
		} {
			y := places(x, next)
			checkFreeOf(t, "elsewhere", y, free...)
			checkConsOf(t, "elsewhere", y, cons)
			// To a fault they are what is told of it, and no more.
			if _, f := scope.Check(y); f != e {
				t.Errorf("Check: error %d, not %d", f, e)
			}
			checkAgainst(t, y)
		}
		b := tree.Bare(x)
		checkFreeOf(t, "bare", b, free...)
		checkConsOf(t, "bare", b, cons)
		checkOf(t, "bare", b, 0, e)
		// But a place ahead of the text is none.
		checkNothing(t, "ahead of the text", places(x, func() int { return -1 }))
	}
}

func TestPlacesOfATextWithBlanks(t *testing.T) {
	for _, s := range []string{`\x. f x y`, "case A 1 of { A -> 1 }", "case x of { A x x -> x | A -> B C }", "A (B 1) B (C x)"} {
		wide := "\n " + strings.ReplaceAll(s, " ", " \n\t ")
		checkFreeOf(t, s, read(t, wide), scope.Free(read(t, s))...)
		if got, want := scope.Cons(read(t, wide)), scope.Cons(read(t, s)); !slices.Equal(got, want) {
			t.Errorf("%q: Cons: %v, not %v", s, got, want)
		}
	}
}

// R1 to R5.

func TestDeepTrees(t *testing.T) {
	one, x, y := number(1), variable("x"), variable("y")
	for what, c := range map[string]struct {
		in   func(p api.Tree, name string) api.Tree
		more int // levels of one time
		free bool
	}{
		"functions":     {func(p api.Tree, name string) api.Tree { return lam(name, p) }, 1, false},
		"lets":          {func(p api.Tree, name string) api.Tree { return let(name, one, p) }, 1, false},
		"lets ahead":    {func(p api.Tree, name string) api.Tree { return let(name, p, one) }, 1, true},
		"letrecs":       {func(p api.Tree, name string) api.Tree { return rec(name, one, p) }, 1, false},
		"letrecs ahead": {func(p api.Tree, name string) api.Tree { return rec(name, p, one) }, 1, false},
		"alternatives":  {func(p api.Tree, name string) api.Tree { return choice(one, alt("A", variable(name), p)) }, 2, false},
		"of several": {func(p api.Tree, name string) api.Tree {
			return choice(one, alt("A", x, one), alt("B", y, variable(name), p))
		}, 2, false},
		"cases":                {func(p api.Tree, name string) api.Tree { return choice(p, alt("A", variable(name), one)) }, 1, true},
		"applied":              {func(p api.Tree, name string) api.Tree { return app(p, one) }, 1, true},
		"what it's applied to": {func(p api.Tree, name string) api.Tree { return app(one, p) }, 1, true},
		"cons":                 {func(p api.Tree, name string) api.Tree { return con("A", p) }, 1, true},
		"sums":                 {func(p api.Tree, name string) api.Tree { return op("+", p, one) }, 1, true},
		"differences":          {func(p api.Tree, name string) api.Tree { return op("-", one, p) }, 1, true},
	} {
		t.Run(what, func(t *testing.T) {
			t.Parallel()
			deep := func(last api.Tree, name func(i int) string) api.Tree {
				for i := range levels/c.more - 4 {
					last = c.in(last, name(i))
				}
				return last
			}
			same := func(int) string { return "x" }
			other := func(i int) string { return "x" + strconv.Itoa(i) }
			// What is bound furthest in, or furthest out, and what nothing binds.
			for _, name := range []string{other(0), other(levels/c.more - 5)} {
				far := deep(at(77, variable(name)), other)
				if c.free {
					checkOf(t, "deep", far, 77, errName)
				} else {
					checkOf(t, "deep", far, 0, ok)
				}
			}
			far := deep(at(78, variable("z")), same)
			checkFreeOf(t, "deep", far, "z")
			checkOf(t, "deep", far, 78, errName)
			checkOf(t, "deep", lam("x", deep(at(79, con("True", x)), same)), 79, errArity)
			far = deep(choice(one, alt("P", one), at(80, alt("P", one))), same)
			checkOf(t, "deep", far, 80, errTwice)
			if l := scope.Cons(far); len(l) < 3 || l[0].Name != "True" || !slices.Contains(l, api.Arity{Name: "P"}) {
				t.Errorf("Cons: %v", l)
			}
			checkNothing(t, "of what may not be", deep(number(-1), same))
		})
	}
}

// A name that is used at each of many levels, all of them bound otherwise.
func TestDeepAndUsedAtEachLevel(t *testing.T) {
	x := number(1)
	for i := range levels/2 - 4 {
		x = lam("x"+strconv.Itoa(i%9999), app(variable("x"+strconv.Itoa(i%9999)), x))
	}
	checkFreeOf(t, "used", x)
	checkOf(t, "used", x, 0, ok)
	checkConsOf(t, "used", x, "True 0 False 0")
}

func TestWideTrees(t *testing.T) {
	x, n := variable("x"), "A 8"
	for range 5 {
		x = con("A", slices.Repeat([]api.Tree{x}, 8)...)
	}
	checkFreeOf(t, "wide", x, "x")
	checkConsOf(t, "wide", x, "True 0 False 0 "+n)
	checkOf(t, "wide", x, 0, errName)
	checkOf(t, "wide", lam("x", x), 0, ok)
	checkOf(t, "wide", lam("x", app(x, at(5, con("A")))), 5, errArity)
}

// No tree panics, whatever it has: these have anything anywhere.
func TestNoTreePanics(t *testing.T) {
	r := rand.New(rand.NewSource(6))
	some := 0
	for range 50000 {
		x := anything(r, r.Intn(4))
		if !tree.May(x) {
			checkNothing(t, "anything", x)
			continue
		}
		some++
		checkAgainst(t, x)
	}
	if some < 200 {
		t.Error("few may be:", some)
	}
}

func anything(r *rand.Rand, deep int) api.Tree {
	x := api.Tree{
		Kind: r.Intn(12),
		Name: pick(r, "", "", "x", "A", "+", "\xff", "let", "x y"),
		N:    pick(r, 0, 0, 0, 1, 2, -1, math.MaxInt, math.MinInt),
		At:   pick(r, 0, 0, 0, 0, 1, -1, math.MinInt),
		L:    pick(r, nil, []api.Tree{}),
	}
	for range r.Intn(4) {
		if deep > 0 {
			x.L = append(x.L, anything(r, deep-1))
		}
	}
	return x
}

func TestEmptyListsAndNilOnes(t *testing.T) {
	none := []api.Tree{}
	checkFreeOf(t, "variable", api.Tree{Kind: 1, Name: "x", L: none}, "x")
	checkConsOf(t, "con", api.Tree{Kind: 6, Name: "A", L: none}, "True 0 False 0 A 0")
	checkOf(t, "con", app(con("A"), api.Tree{Kind: 6, Name: "A", L: none}), 0, ok)
	checkOf(t, "number", api.Tree{Kind: 9, L: none}, 0, ok)
	checkNothing(t, "case", api.Tree{Kind: 7, L: none})
}

// some are trees of each sort of answer.
func some(t *testing.T) []api.Tree {
	return []api.Tree{
		read(t, "f x + g (A y)"),
		read(t, `\x. x`),
		read(t, "1 (A 1) A"),
		read(t, "case 1 of { A x x -> let y = x in y }"),
		read(t, "letrec x = Cons 1 x in case x of { Cons h t -> h | Nil -> 0 }"),
		number(-1),
	}
}

func TestArgumentsAreLeft(t *testing.T) {
	for i := range some(t) {
		// Behind a list's end nothing is written.
		x, want := roomy(some(t)[i]), roomy(some(t)[i])
		scope.Check(x)
		scope.Free(x)
		scope.Cons(x)
		if !reflect.DeepEqual(whole(x), whole(want)) {
			t.Errorf("%v was changed: %v", want, x)
		}
	}
}

// roomy is t with room behind its lists, in which something stands.
func roomy(t api.Tree) api.Tree {
	l := make([]api.Tree, 0, len(t.L)+2)
	for _, p := range t.L {
		l = append(l, roomy(p))
	}
	l = append(l, variable("behind"), number(-5))
	t.L = l[:len(t.L)]
	return t
}

// whole is t with what stands behind its lists' ends.
func whole(t api.Tree) api.Tree {
	l := []api.Tree{}
	for _, p := range t.L[:cap(t.L)] {
		l = append(l, whole(p))
	}
	t.L = l
	return t
}

// Who is asked ahead is of no moment, nor what is done with an answer, nor who else asks.
func TestNothingIsKept(t *testing.T) {
	trees := some(t)
	type answers struct {
		free []string
		cons []api.Arity
		at   int
		e    api.Errno
	}
	ask := func(x api.Tree) answers {
		at, e := scope.Check(x)
		return answers{scope.Free(x), scope.Cons(x), at, e}
	}
	same := func(a, b answers) bool {
		return slices.Equal(a.free, b.free) && slices.Equal(a.cons, b.cons) && a.at == b.at && a.e == b.e
	}
	copied := func(a answers) answers {
		return answers{slices.Clone(a.free), slices.Clone(a.cons), a.at, a.e}
	}
	var first []answers
	for _, x := range trees {
		first = append(first, copied(ask(x)))
	}
	for i, x := range trees {
		for j, y := range trees {
			a, b := ask(x), ask(y)
			kept := copied(b)
			for k := range a.free {
				a.free[k] = "spoilt"
			}
			for k := range a.cons {
				a.cons[k] = api.Arity{Name: "Spoilt", N: -1}
			}
			if !same(b, kept) || !same(kept, first[j]) || !same(ask(x), first[i]) {
				t.Errorf("%v, %v: %v, then %v", x, y, b, ask(x))
			}
		}
	}
	var all sync.WaitGroup
	for i, x := range trees {
		all.Go(func() {
			for range 200 {
				if got := ask(x); !same(got, first[i]) {
					t.Errorf("%v: %v, not %v", x, got, first[i])
				}
			}
		})
	}
	all.Wait()
}
