package sugar_test

import (
	"fmt"
	"math"
	"math/rand"
	"reflect"
	"slices"
	"strconv"
	"strings"
	"sync"
	"testing"
	"unsafe"

	"gossamer/api"
	"gossamer/core"
	"gossamer/parse"
	"gossamer/scope"
	"gossamer/show"
	"gossamer/sugar"
	"gossamer/tree"
)

// Kinds, limits and errors are written as numbers: the chapters tell them so.
const (
	ok       api.Errno = 0
	errArg   api.Errno = 1
	errName  api.Errno = 50
	errArity api.Errno = 51
	errTwice api.Errno = 52

	great  = 999999999999999999
	fewest = math.MinInt
	most   = math.MaxInt
	levels = 1 << 16

	name16 = "abcdefghijklmnop"
	con16  = "ABCDEFGHIJKLMNOP"

	loop = `(\ (@ (\ (@ #1 (@ #0 #0))) (\ (@ #1 (@ #0 #0)))))`
)

// Trees.

func variable(s string) api.Tree           { return api.Tree{Kind: 1, Name: s} }
func lam(s string, b api.Tree) api.Tree    { return api.Tree{Kind: 2, Name: s, L: []api.Tree{b}} }
func app(f, a api.Tree) api.Tree           { return api.Tree{Kind: 3, L: []api.Tree{f, a}} }
func let(s string, x, b api.Tree) api.Tree { return api.Tree{Kind: 4, Name: s, L: []api.Tree{x, b}} }
func rec(s string, x, b api.Tree) api.Tree { return api.Tree{Kind: 5, Name: s, L: []api.Tree{x, b}} }
func con(s string, l ...api.Tree) api.Tree { return api.Tree{Kind: 6, Name: s, L: l} }
func number(n int) api.Tree                { return api.Tree{Kind: 9, N: n} }
func op(s string, a, b api.Tree) api.Tree  { return api.Tree{Kind: 10, Name: s, L: []api.Tree{a, b}} }

func choice(x api.Tree, alts ...api.Tree) api.Tree {
	return api.Tree{Kind: 7, L: append([]api.Tree{x}, alts...)}
}

// alt is an alternative with as many variables as it has parts, less one.
func alt(s string, l ...api.Tree) api.Tree {
	return api.Tree{Kind: 8, Name: s, N: len(l) - 1, L: l}
}

// Terms.

func coreVar(n int) api.Term                   { return api.Term{Kind: 1, N: n} }
func coreLam(b api.Term) api.Term              { return api.Term{Kind: 2, L: []api.Term{b}} }
func coreApp(f, a api.Term) api.Term           { return api.Term{Kind: 3, L: []api.Term{f, a}} }
func coreCon(s string, l ...api.Term) api.Term { return api.Term{Kind: 4, Name: s, L: l} }
func coreInt(n int) api.Term                   { return api.Term{Kind: 7, N: n} }
func coreOp(s string, a, b api.Term) api.Term  { return api.Term{Kind: 8, Name: s, L: []api.Term{a, b}} }
func coreFail() api.Term                       { return api.Term{Kind: 9} }

func coreCase(x api.Term, alts ...api.Term) api.Term {
	return api.Term{Kind: 5, L: append([]api.Term{x}, alts...)}
}

func coreAlt(s string, n int, b api.Term) api.Term {
	return api.Term{Kind: 6, Name: s, N: n, L: []api.Term{b}}
}

// read is the tree of a text.
func read(t *testing.T, s string) api.Tree {
	t.Helper()
	x, at, e := parse.Parse(s, 200)
	if e != ok {
		t.Fatalf("Parse(%q): error %d at %d", s, e, at)
	}
	return x
}

// reader reads a Text of a term.
type reader struct{ rest string }

// word is what stands ahead of the next blank or sign, and is read.
func (r *reader) word() string {
	n := strings.IndexAny(r.rest, " ()")
	if n < 0 {
		n = len(r.rest)
	}
	s := r.rest[:n]
	r.rest = r.rest[n:]
	return s
}

func (r *reader) term() api.Term {
	if !strings.HasPrefix(r.rest, "(") {
		return leaf(r.word())
	}
	r.rest = r.rest[1:]
	x := headed(r.word())
	for strings.HasPrefix(r.rest, " ") {
		r.rest = r.rest[1:]
		x.L = append(x.L, r.term())
	}
	r.rest = strings.TrimPrefix(r.rest, ")")
	return x
}

func leaf(s string) api.Term {
	if s == "!" {
		return coreFail()
	}
	n, _ := strconv.Atoi(strings.TrimPrefix(s, "#"))
	if strings.HasPrefix(s, "#") {
		return coreVar(n)
	}
	return coreInt(n)
}

func headed(s string) api.Term {
	switch s {
	case `\`:
		return api.Term{Kind: 2}
	case "@":
		return api.Term{Kind: 3}
	case "?":
		return api.Term{Kind: 5}
	case "+", "-", "*", "/", "<", "==":
		return api.Term{Kind: 8, Name: s}
	}
	name, digits, is := strings.Cut(s, ":")
	if !is {
		return api.Term{Kind: 4, Name: name}
	}
	n, _ := strconv.Atoi(digits)
	return api.Term{Kind: 6, Name: name, N: n}
}

// readTerm is the term of a Text, in which LOOP stands for the loop's one.
func readTerm(t *testing.T, s string) api.Term {
	t.Helper()
	s = strings.ReplaceAll(s, "LOOP", loop)
	r := reader{s}
	x := r.term()
	if r.rest != "" || core.Text(x) != s {
		t.Fatalf("%q is no term's Text", s)
	}
	return x
}

// told is x as a failure tells it: no more than its first bytes.
func told(x any) string {
	s := fmt.Sprint(x)
	if len(s) > 400 {
		s = s[:400] + ".."
	}
	return s
}

func isEmptyTerm(x api.Term) bool { return x.Kind == 0 && x.N == 0 && x.Name == "" && len(x.L) == 0 }

func isEmptyTree(x api.Tree) bool {
	return x.At == 0 && x.Kind == 0 && x.N == 0 && x.Name == "" && len(x.L) == 0
}

// Checks of Core.

func checkCoreOf(t *testing.T, what string, x api.Tree, want api.Term) {
	t.Helper()
	got, at, e := sugar.Core(x)
	if at != 0 || e != ok || !core.Same(got, want) {
		t.Errorf("%s: Core: %s, error %d at %d; want %s", told(what), told(core.Text(got)), e, at, told(core.Text(want)))
	}
}

// checkCore asks for the term of a text.
func checkCore(t *testing.T, s, want string) {
	t.Helper()
	checkCoreOf(t, s, read(t, s), readTerm(t, want))
}

func checkFaultOf(t *testing.T, what string, x api.Tree, at int, want api.Errno) {
	t.Helper()
	got, n, e := sugar.Core(x)
	if n != at || e != want || !isEmptyTerm(got) {
		t.Errorf("%s: Core: %s, error %d at %d; want error %d at %d", told(what), told(got), e, n, want, at)
	}
}

// checkFault asks for the fault of a text, at the place where ^ stands in it.
func checkFault(t *testing.T, s string, want api.Errno) {
	t.Helper()
	at := strings.IndexByte(s, '^')
	if at < 0 {
		t.Fatalf("%q has no place", s)
	}
	s = s[:at] + s[at+1:]
	checkFaultOf(t, s, read(t, s), at, want)
}

// Checks of Tree.

// checkTreeOf asks for the tree of a term; of what is written alike nothing may be other.
func checkTreeOf(t *testing.T, x api.Term, want api.Tree) {
	t.Helper()
	got, e := sugar.Tree(x)
	if e != ok || !reflect.DeepEqual(trimmed(got), trimmed(want)) {
		t.Errorf("Tree(%s): %s, error %d; want %s", told(core.Text(x)), told(got), e, told(want))
	}
}

// checkTree asks for the tree of a term, as the text of which it is read, but for places, which are all 0.
func checkTree(t *testing.T, s, want string) {
	t.Helper()
	checkTreeOf(t, readTerm(t, s), tree.Bare(read(t, want)))
}

// trimmed is x, in which no list is empty, but nil.
func trimmed(x api.Tree) api.Tree {
	var l []api.Tree
	for _, p := range x.L {
		l = append(l, trimmed(p))
	}
	x.L = l
	return x
}

func checkNoTree(t *testing.T, what string, x api.Term) {
	t.Helper()
	if got, e := sugar.Tree(x); e != errArg || !isEmptyTree(got) {
		t.Errorf("%s: Tree(%s): %s, error %d", what, told(core.Text(x)), told(got), e)
	}
}

func checkHasTree(t *testing.T, what string, x api.Term) {
	t.Helper()
	if got, e := sugar.Tree(x); e != ok || !tree.May(got) {
		t.Errorf("%s: Tree(%s): %s, error %d", what, told(core.Text(x)), told(got), e)
	}
}

// P7.1, Core of each Kind of tree.

func TestCoreOfEachKind(t *testing.T) {
	x, one := variable("x"), number(1)
	coreOne := coreInt(1)
	id := coreLam(coreVar(0))
	for what, c := range map[string]struct {
		x    api.Tree
		want api.Term
	}{
		"function":        {lam("x", x), id},
		"constant":        {lam("x", one), coreLam(coreOne)},
		"applied":         {app(lam("x", x), one), coreApp(id, coreOne)},
		"let":             {let("x", one, x), coreApp(id, coreOne)},
		"letrec":          {rec("x", x, x), coreApp(id, coreApp(sugar.Loop(), id))},
		"con":             {con("Nil"), coreCon("Nil")},
		"con of nothing":  {con("Nil", []api.Tree{}...), coreCon("Nil")},
		"con of two":      {con("Cons", one, con("Nil")), coreCon("Cons", coreOne, coreCon("Nil"))},
		"con of eight":    {con(con16, slices.Repeat([]api.Tree{one}, 8)...), coreCon(con16, slices.Repeat([]api.Term{coreOne}, 8)...)},
		"case":            {choice(one, alt("A", one)), coreCase(coreOne, coreAlt("A", 0, coreOne))},
		"case that binds": {choice(one, alt("A", x, variable("y"), x)), coreCase(coreOne, coreAlt("A", 2, coreVar(1)))},
		"number":          {number(0), coreInt(0)},
		"greatest number": {number(great), coreInt(great)},
	} {
		checkCoreOf(t, what, c.x, c.want)
	}
	for _, sign := range []string{"+", "-", "*", "/", "<", "=="} {
		checkCoreOf(t, sign, op(sign, one, number(2)), coreOp(sign, coreOne, coreInt(2)))
	}
}

func TestCoreOfOrdinaryTexts(t *testing.T) {
	for s, want := range map[string]string{
		`7`:                     `7`,
		`1 + 2 * 3 - 4`:         `(- (+ 1 (* 2 3)) 4)`,
		`1 / 0 == 2`:            `(== (/ 1 0) 2)`,
		`\x. x`:                 `(\ #0)`,
		`\x. \y. x`:             `(\ (\ #1))`,
		`\f. \x. f (f x)`:       `(\ (\ (@ #1 (@ #1 #0))))`,
		`(\x. x x) (\y. y y)`:   `(@ (\ (@ #0 #0)) (\ (@ #0 #0)))`,
		`Cons 1 (Cons 2 Nil)`:   `(Cons 1 (Cons 2 (Nil)))`,
		`(Cons 1) 2`:            `(@ (Cons 1) 2)`,
		`\x. A x (\y. x y) x`:   `(\ (A #0 (\ (@ #1 #0)) #0))`,
		`let x = 1 in x`:        `(@ (\ #0) 1)`,
		`\x. x < x`:             `(\ (< #0 #0))`,
		`True`:                  `(True)`,
		` ( ( \ x . ( x ) ) ) `: `(\ #0)`,
		`\f. letrec g = \x. case x of { Nil -> f | Cons y z -> g z y } in g`: `(\ (@ (\ #0) (@ LOOP (\ (\ (? #0 (Nil:0 #2) (Cons:2 (@ (@ #3 #0) #1))))))))`,
		`let x = 2 * 3 in Cons x x`: `(@ (\ (Cons #0 #0)) (* 2 3))`,
	} {
		checkCore(t, s, want)
	}
}

// Far out: what is counted is what was bound further in, and nothing beside it.
func TestHowFarOut(t *testing.T) {
	for n := range 30 {
		for m := range n {
			x := variable("x" + strconv.Itoa(m))
			want := coreVar(n - 1 - m)
			for i := n - 1; i >= 0; i-- {
				x, want = lam("x"+strconv.Itoa(i), x), coreLam(want)
			}
			checkCoreOf(t, "functions", x, want)
		}
	}
	checkCore(t, `\x. (\y. \z. 1) x`, `(\ (@ (\ (\ 1)) #0))`)
	checkCore(t, `\x. A (\y. y) (let y = 1 in \z. y) x`, `(\ (A (\ #0) (@ (\ (\ #1)) 1) #0))`)
	checkCore(t, `\x. case (\y. y) of { A y z -> x | B -> x }`, `(\ (? (\ #0) (A:2 #2) (B:0 #0)))`)
	checkCore(t, `\x. (let y = x in x) + x`, `(\ (+ (@ (\ #1) #0) #0))`)
	checkCore(t, `\x. (letrec y = x in x) + x`, `(\ (+ (@ (\ #1) (@ LOOP (\ #1))) #0))`)
	checkCore(t, `\x. (case 1 of { A a b c -> a }) + x`, `(\ (+ (? 1 (A:3 #2)) #0))`)
}

func TestNamesOfAnyLength(t *testing.T) {
	for _, s := range []string{"a", "z", "v", "v0", "v1", "xX9", "lets", "ofx", name16} {
		checkCoreOf(t, s, lam(s, lam("q", app(variable(s), variable("q")))), readTerm(t, `(\ (\ (@ #1 #0)))`))
	}
	// Names that begin alike are others.
	checkCore(t, `\x. \xx. \xX. \x0. A x xx xX x0`, `(\ (\ (\ (\ (A #3 #2 #1 #0)))))`)
}

// P7.1: of a name that is bound more than once the last bound one is meant.

func TestTheLastBoundOneIsMeant(t *testing.T) {
	for s, want := range map[string]string{
		// By functions.
		`\x. \x. x`:                 `(\ (\ #0))`,
		`\x. \x. \x. x`:             `(\ (\ (\ #0)))`,
		`\x. \y. \x. x y`:           `(\ (\ (\ (@ #0 #1))))`,
		`\x. \y. \x. \y. x y`:       `(\ (\ (\ (\ (@ #1 #0)))))`,
		`\x. \y. \x. \z. y x`:       `(\ (\ (\ (\ (@ #2 #1)))))`,
		`\x. (\x. x) x`:             `(\ (@ (\ #0) #0))`,
		`\x. x (\x. x) x`:           `(\ (@ (@ #0 (\ #0)) #0))`,
		`\x. \y. (\x. x y) (x y)`:   `(\ (\ (@ (\ (@ #0 #1)) (@ #1 #0))))`,
		`\x. A (\x. \x. x) x`:       `(\ (A (\ (\ #0)) #0))`,
		`\x. (\y. (\x. y x) x) x`:   `(\ (@ (\ (@ (\ (@ #1 #0)) #1)) #0))`,
		`\x. (\x. x) + (\x. x) * x`: `(\ (+ (\ #0) (* (\ #0) #0)))`,
		// By lets: the first part lies without.
		`\x. let x = x in x`:                           `(\ (@ (\ #0) #0))`,
		`\x. let x = \y. x in \y. x`:                   `(\ (@ (\ (\ #1)) (\ #1)))`,
		`let x = 1 in let x = x in x`:                  `(@ (\ (@ (\ #0) #0)) 1)`,
		`let x = 1 in let y = 2 in let x = y in A x y`: `(@ (\ (@ (\ (@ (\ (A #0 #1)) #0)) 2)) 1)`,
		`\x. \y. let x = y in x y`:                     `(\ (\ (@ (\ (@ #0 #1)) #0)))`,
		`\x. (let x = 1 in x) x`:                       `(\ (@ (@ (\ #0) 1) #0))`,
		`\x. let y = let x = 2 in x in x y`:            `(\ (@ (\ (@ #1 #0)) (@ (\ #0) 2)))`,
		`\x. let x = let x = x in x in x`:              `(\ (@ (\ #0) (@ (\ #0) #0)))`,
		// By letrecs: both parts lie within.
		`\x. letrec x = x in x`:                 `(\ (@ (\ #0) (@ LOOP (\ #0))))`,
		`\x. letrec x = \y. x in \y. x`:         `(\ (@ (\ (\ #1)) (@ LOOP (\ (\ #1)))))`,
		`\x. (letrec x = x in x) x`:             `(\ (@ (@ (\ #0) (@ LOOP (\ #0))) #0))`,
		`letrec x = x in letrec x = x in x`:     `(@ (\ (@ (\ #0) (@ LOOP (\ #0)))) (@ LOOP (\ #0)))`,
		`letrec x = 1 in let x = x in x`:        `(@ (\ (@ (\ #0) #0)) (@ LOOP (\ 1)))`,
		`let x = 1 in letrec x = x in x`:        `(@ (\ (@ (\ #0) (@ LOOP (\ #0)))) 1)`,
		`\x. letrec x = letrec x = x in x in x`: `(\ (@ (\ #0) (@ LOOP (\ (@ (\ #0) (@ LOOP (\ #0)))))))`,
		`\x. \y. letrec x = y x in x y`:         `(\ (\ (@ (\ (@ #0 #1)) (@ LOOP (\ (@ #1 #0))))))`,
		// By alternatives, one among others.
		`\x. case x of { A x -> x }`:                                                    `(\ (? #0 (A:1 #0)))`,
		`\x. case x of { A y x -> x y | B -> x | C x y -> x y | D y -> x }`:             `(\ (? #0 (A:2 (@ #0 #1)) (B:0 #0) (C:2 (@ #1 #0)) (D:1 #1)))`,
		`\x. \y. case x y of { A -> x y | B x -> x y | C y -> x y | D z -> x y }`:       `(\ (\ (? (@ #1 #0) (A:0 (@ #1 #0)) (B:1 (@ #0 #1)) (C:1 (@ #2 #0)) (D:1 (@ #2 #1)))))`,
		`\x. (case x of { A x y z -> y }) x`:                                            `(\ (@ (? #0 (A:3 #1)) #0))`,
		`\x. case (case x of { A x -> x }) of { A y -> x y }`:                           `(\ (? (? #0 (A:1 #0)) (A:1 (@ #1 #0))))`,
		`case 1 of { A x y -> case x y of { A y x -> x y } }`:                           `(? 1 (A:2 (? (@ #1 #0) (A:2 (@ #0 #1)))))`,
		`case 1 of { A x -> case x of { B x -> case x of { C x -> x } } }`:              `(? 1 (A:1 (? #0 (B:1 (? #0 (C:1 #0))))))`,
		`case 1 of { A x -> \x. x | B x -> let x = x in x | C x -> letrec x = x in x }`: `(? 1 (A:1 (\ #0)) (B:1 (@ (\ #0) #0)) (C:1 (@ (\ #0) (@ LOOP (\ #0)))))`,
		// By each of them.
		`\x. let x = x in letrec x = x in case x of { A x -> x (\x. x) }`: `(\ (@ (\ (@ (\ (? #0 (A:1 (@ #0 (\ #0))))) (@ LOOP (\ #0)))) #0))`,
	} {
		checkCore(t, s, want)
	}
}

func TestBoundManyTimes(t *testing.T) {
	for n := 1; n < 30; n++ {
		x, want := variable("x"), coreVar(0)
		for range n {
			x = lam("x", app(x, variable("x")))
			want = coreLam(coreApp(want, coreVar(0)))
		}
		checkCoreOf(t, "functions of one name", x, want)
		checkCoreOf(t, "within another one", lam("y", x), coreLam(want))
	}
}

// An alternative's variables are bound one behind the other: the first one is furthest out.
func TestVariablesOfAlternatives(t *testing.T) {
	for n := range 9 {
		var l []api.Tree
		for i := range n {
			l = append(l, variable("a"+strconv.Itoa(i)))
		}
		for i := range n {
			a := alt("A", append(slices.Clone(l), l[i])...)
			checkCoreOf(t, "alternative", choice(number(1), a), coreCase(coreInt(1), coreAlt("A", n, coreVar(n-1-i))))
			b := coreAlt("B", 1, coreVar(0))
			checkCoreOf(t, "ahead of another one", choice(number(1), a, alt("B", variable("x"), variable("x"))), coreCase(coreInt(1), coreAlt("A", n, coreVar(n-1-i)), b))
		}
		x := lam("x", choice(variable("x"), alt("A", append(slices.Clone(l), variable("x"))...)))
		checkCoreOf(t, "around an alternative", x, coreLam(coreCase(coreVar(0), coreAlt("A", n, coreVar(n)))))
		x = choice(number(1), alt("A", append(slices.Clone(l), lam("x", con("P", append(slices.Clone(l), variable("x"))[1:]...)))...))
		var parts []api.Term
		for i := 1; i <= n; i++ {
			parts = append(parts, coreVar(n-i))
		}
		checkCoreOf(t, "within an alternative", x, coreCase(coreInt(1), coreAlt("A", n, coreLam(coreCon("P", parts...)))))
	}
	// Eight alternatives, each with others.
	checkCore(t, `\x. case x of { A -> x | B a -> a x | C a b -> a x | D a b c -> a x | E a b c d -> a x | F a b c d e -> a x | G a b c d e f -> a x | H a b c d e f g h -> a x }`,
		`(\ (? #0 (A:0 #0) (B:1 (@ #0 #1)) (C:2 (@ #1 #2)) (D:3 (@ #2 #3)) (E:4 (@ #3 #4)) (F:5 (@ #4 #5)) (G:6 (@ #5 #6)) (H:8 (@ #7 #8))))`)
}

// P7.1, lets and letrecs: what is let used in no, one and both parts.

func TestLets(t *testing.T) {
	for s, want := range map[string]string{
		`let x = 1 in 2`:                       `(@ (\ 2) 1)`,
		`let x = 1 in x`:                       `(@ (\ #0) 1)`,
		`let x = 1 in x + x`:                   `(@ (\ (+ #0 #0)) 1)`,
		`let x = \y. y in \y. x`:               `(@ (\ (\ #1)) (\ #0))`,
		`let x = 1 in let y = 2 in x - y`:      `(@ (\ (@ (\ (- #1 #0)) 2)) 1)`,
		`let x = 1 in let y = x in y`:          `(@ (\ (@ (\ #0) #0)) 1)`,
		`let x = let y = 1 in y in x`:          `(@ (\ #0) (@ (\ #0) 1))`,
		`\y. let x = y in 1`:                   `(\ (@ (\ 1) #0))`,
		`\y. let x = y in y`:                   `(\ (@ (\ #1) #0))`,
		`\y. \z. let x = y z in x y z`:         `(\ (\ (@ (\ (@ (@ #0 #2) #1)) (@ #1 #0))))`,
		`\x. let x = x in 1`:                   `(\ (@ (\ 1) #0))`,
		`\x. let x = x x in x x`:               `(\ (@ (\ (@ #0 #0)) (@ #0 #0)))`,
		`(let x = 1 in x) + (let x = 2 in x)`:  `(+ (@ (\ #0) 1) (@ (\ #0) 2))`,
		`let f = \x. x in f f`:                 `(@ (\ (@ #0 #0)) (\ #0))`,
		`let x = 1 in case x of { A y -> x }`:  `(@ (\ (? #0 (A:1 #1))) 1)`,
		`let x = Cons 1 Nil in Cons x (A x x)`: `(@ (\ (Cons #0 (A #0 #0))) (Cons 1 (Nil)))`,
	} {
		checkCore(t, s, want)
	}
	// In its first part it is not bound.
	checkFault(t, `let x = ^x in x`, errName)
	checkFault(t, `let x = ^x in 1`, errName)
	checkFault(t, `let x = \y. ^x in 1`, errName)
}

func TestLetrecs(t *testing.T) {
	for s, want := range map[string]string{
		`letrec x = 1 in 2`:                                                      `(@ (\ 2) (@ LOOP (\ 1)))`,
		`letrec x = 1 in x`:                                                      `(@ (\ #0) (@ LOOP (\ 1)))`,
		`letrec x = x in 2`:                                                      `(@ (\ 2) (@ LOOP (\ #0)))`,
		`letrec x = x in x`:                                                      `(@ (\ #0) (@ LOOP (\ #0)))`,
		`letrec x = Cons 1 x in x`:                                               `(@ (\ #0) (@ LOOP (\ (Cons 1 #0))))`,
		`letrec f = \x. f x in f 1`:                                              `(@ (\ (@ #0 1)) (@ LOOP (\ (\ (@ #1 #0)))))`,
		`\y. letrec f = \x. f y in f y`:                                          `(\ (@ (\ (@ #0 #1)) (@ LOOP (\ (\ (@ #1 #2))))))`,
		`\y. letrec f = y in y`:                                                  `(\ (@ (\ #1) (@ LOOP (\ #1))))`,
		`letrec f = letrec g = f g in g f in f`:                                  `(@ (\ #0) (@ LOOP (\ (@ (\ (@ #0 #1)) (@ LOOP (\ (@ #1 #0)))))))`,
		`letrec f = \x. f in letrec g = \x. f g in f g`:                          `(@ (\ (@ (\ (@ #1 #0)) (@ LOOP (\ (\ (@ #2 #1)))))) (@ LOOP (\ (\ #1))))`,
		`(letrec x = x in x) (letrec y = y in y)`:                                `(@ (@ (\ #0) (@ LOOP (\ #0))) (@ (\ #0) (@ LOOP (\ #0))))`,
		`letrec f = case f of { A x -> f x | B -> f } in f`:                      `(@ (\ #0) (@ LOOP (\ (? #0 (A:1 (@ #1 #0)) (B:0 #0)))))`,
		`letrec f = let x = f in f x in let x = f in f x`:                        `(@ (\ (@ (\ (@ #1 #0)) #0)) (@ LOOP (\ (@ (\ (@ #1 #0)) #0))))`,
		`letrec n = \x. case x < 1 of { True -> 0 | False -> n (x - 1) } in n 9`: `(@ (\ (@ #0 9)) (@ LOOP (\ (\ (? (< #0 1) (True:0 0) (False:0 (@ #1 (- #0 1))))))))`,
	} {
		checkCore(t, s, want)
	}
}

// P7.1: scope.Check's errors.

func TestFaults(t *testing.T) {
	for s, want := range map[string]api.Errno{
		`^x`:                                     errName,
		`  ^x  `:                                 errName,
		`\x. ^y`:                                 errName,
		`(\x. x) ^x`:                             errName,
		`A 1 (\x. ^y) `:                          errName,
		`(let x = 1 in x) + ^x`:                  errName,
		`(letrec x = 1 in x) + ^x`:               errName,
		`case ^x of { A x -> x }`:                errName,
		`case 1 of { A x -> x | B -> ^x }`:       errName,
		`case 1 of { A -> 1 | B y x -> y ^z }`:   errName,
		`A (^A)`:                                 errArity,
		`A 1 ^A`:                                 errArity,
		`^True 1`:                                errArity,
		`^False 1 2`:                             errArity,
		`case A of { ^A x -> x }`:                errArity,
		`case 1 of { A x -> ^A }`:                errArity,
		`case 1 of { B -> 1 | ^True x -> x }`:    errArity,
		`case 1 of { ^A x x -> x }`:              errTwice,
		`case 1 of { B -> 1 | ^A x y z x -> x }`: errTwice,
		`case 1 of { A -> 1 | ^A -> 2 }`:         errTwice,
		`case 1 of { A -> 1 | B -> 2 | ^A -> 3 | A -> 4 }`: errTwice,
		`\x. case x of { A y -> y | B -> 2 | ^A y -> x }`:  errTwice,
	} {
		checkFault(t, s, want)
	}
}

func TestTheFirstFaultIsTold(t *testing.T) {
	for s, want := range map[string]api.Errno{
		`^x y`:                                              errName,
		`^x (A A)`:                                          errName,
		`A ^x (A 1)`:                                        errName,
		`A (^A 1) x`:                                        errArity,
		`A (^A x y)`:                                        errArity,
		`A 1 (^A x) y`:                                      errArity,
		`^True x`:                                           errArity,
		`case 1 of { ^A x x -> y }`:                         errTwice,
		`case ^y of { A x x -> A }`:                         errName,
		`case 1 of { A -> ^y | A -> 1 }`:                    errName,
		`case 1 of { A -> 1 | ^A -> y }`:                    errTwice,
		`case 1 of { ^A x x -> A }`:                         errTwice,
		`case 1 of { A -> (^A 1) | A -> 2 }`:                errArity,
		`A (case 1 of { ^A x x -> y })`:                     errArity,
		`case 1 of { A -> 1 | ^A x -> y }`:                  errArity,
		`case 1 of { A -> 1 | ^A x x -> y }`:                errArity,
		`case A of { ^A x x -> x }`:                         errArity,
		`let x = ^x in x y (A A)`:                           errName,
		`let x = A in (^A x) y`:                             errArity,
		`letrec x = case 1 of { ^A x x -> x } in y`:         errTwice,
		`A + B + ^y + (case 1 of { C x x -> A 1 })`:         errName,
		`A + B + (case 1 of { ^C x x -> A 1 }) + y`:         errTwice,
		`A + B + (^A 1) + y + (case 1 of { C x x -> A 1 })`: errArity,
	} {
		checkFault(t, s, want)
	}
}

// Places are told as they are, whether they rise or not.
func TestPlacesOfFaults(t *testing.T) {
	at := func(n int, x api.Tree) api.Tree {
		x.At = n
		return x
	}
	y := variable("y")
	for _, n := range []int{0, 1, 7, 4096, most} {
		checkFaultOf(t, "free", at(n, y), n, errName)
		checkFaultOf(t, "free, within", at(3, lam("x", at(n, y))), n, errName)
		checkFaultOf(t, "free, both", at(3, app(at(n, y), at(2, y))), n, errName)
		checkFaultOf(t, "arity", at(3, con("A", at(n, con("A")))), n, errArity)
		checkFaultOf(t, "twins", at(3, choice(number(1), at(n, alt("A", y, y, y)))), n, errTwice)
		checkFaultOf(t, "twins", at(3, choice(number(1), at(4, alt("A", number(1))), at(n, alt("A", number(1))))), n, errTwice)
		checkCoreOf(t, "none", at(n, lam("x", at(n, variable("x")))), coreLam(coreVar(0)))
	}
}

// none are trees that may not be.
func none() map[string]api.Tree {
	one, x := number(1), variable("x")
	return map[string]api.Tree{
		"nothing":                   {},
		"of no kind":                {Kind: 11},
		"of a kind below 0":         {Kind: -1, Name: "x"},
		"alternative":               alt("A", one),
		"variable without a name":   {Kind: 1},
		"variable, a word":          variable("let"),
		"variable, a con":           variable("X"),
		"variable, long":            variable(name16 + "q"),
		"variable with a number":    {Kind: 1, Name: "x", N: 1},
		"variable with a part":      {Kind: 1, Name: "x", L: []api.Tree{one}},
		"variable at -1":            {Kind: 1, Name: "x", At: -1},
		"function without a name":   {Kind: 2, L: []api.Tree{one}},
		"function without a body":   {Kind: 2, Name: "x"},
		"function with two":         {Kind: 2, Name: "x", L: []api.Tree{one, one}},
		"applied to nothing":        {Kind: 3, L: []api.Tree{one}},
		"applied, with a name":      {Kind: 3, Name: "x", L: []api.Tree{one, one}},
		"let of one":                {Kind: 4, Name: "x", L: []api.Tree{one}},
		"let of nothing":            {Kind: 4, Name: "x"},
		"let without a name":        {Kind: 4, L: []api.Tree{one, one}},
		"letrec of one":             {Kind: 5, Name: "x", L: []api.Tree{one}},
		"letrec of a con":           {Kind: 5, Name: "X", L: []api.Tree{one, one}},
		"con of a name":             con("x"),
		"con of nine":               con("A", slices.Repeat([]api.Tree{one}, 9)...),
		"con of an alternative":     con("A", alt("A", one)),
		"case of nothing":           {Kind: 7},
		"case without alternatives": choice(one),
		"case of others":            choice(one, one),
		"case of an alternative":    choice(alt("A", one), alt("A", one)),
		"alternative of a name":     choice(one, alt("a", one)),
		"alternative of few":        choice(one, api.Tree{Kind: 8, Name: "A", N: 2, L: []api.Tree{x, one}}),
		"alternative of many":       choice(one, api.Tree{Kind: 8, Name: "A", N: 1, L: []api.Tree{x, x, one}}),
		"alternative of none":       choice(one, api.Tree{Kind: 8, Name: "A"}),
		"alternative of below 0":    choice(one, api.Tree{Kind: 8, Name: "A", N: -1}),
		"alternative of most":       choice(one, api.Tree{Kind: 8, Name: "A", N: most, L: []api.Tree{one}}),
		"alternative of fewest":     choice(one, api.Tree{Kind: 8, Name: "A", N: fewest, L: []api.Tree{one}}),
		"alternative of numbers":    choice(one, alt("A", one, one)),
		"number below 0":            number(-1),
		"number above":              number(great + 1),
		"number with a part":        {Kind: 9, L: []api.Tree{one}},
		"operator of another sign":  op("%", one, one),
		"operator of one":           {Kind: 10, Name: "+", L: []api.Tree{one}},
		"operator of nothing":       {Kind: 10, Name: "+"},
	}
}

func TestTreesThatMayNotBe(t *testing.T) {
	one, free := number(1), variable("y")
	free.At = 9
	for what, x := range none() {
		checkFaultOf(t, what, x, 0, errArg)
		// It is told ahead of all else, wherever that is.
		checkFaultOf(t, what+" behind a free one", app(free, x), 0, errArg)
		checkFaultOf(t, what+" in a function", lam("x", x), 0, errArg)
		checkFaultOf(t, what+" let", let("x", x, free), 0, errArg)
		checkFaultOf(t, what+" in a let", let("x", one, x), 0, errArg)
		checkFaultOf(t, what+" in a letrec", rec("x", free, x), 0, errArg)
		checkFaultOf(t, what+" in a con", con("A", con("A"), x), 0, errArg)
		checkFaultOf(t, what+" in an alternative", choice(one, alt("A", one), alt("A", x)), 0, errArg)
		checkFaultOf(t, what+" in a sum", op("+", free, x), 0, errArg)
	}
}

// Each fault is scope.Check's.
func checkLikeScope(t *testing.T, x api.Tree) bool {
	t.Helper()
	at, e := scope.Check(x)
	if e != ok {
		checkFaultOf(t, told(x), x, at, e)
		return false
	}
	if got, n, f := sugar.Core(x); n != 0 || f != ok || !core.May(got, 0) {
		t.Errorf("Core(%s): %s, error %d at %d", told(x), told(core.Text(got)), f, n)
	}
	return true
}

// P7.1, Loop.

func TestLoop(t *testing.T) {
	x := sugar.Loop()
	if s := core.Text(x); s != loop {
		t.Errorf("Loop: %s", s)
	}
	half := coreLam(coreApp(coreVar(1), coreApp(coreVar(0), coreVar(0))))
	if !core.Same(x, coreLam(coreApp(half, half))) || !core.May(x, 0) {
		t.Errorf("Loop: %v", x)
	}
}

// What is written into an answer is nobody else's.
func TestLoopIsMadeAnew(t *testing.T) {
	x, y := sugar.Loop(), sugar.Loop()
	checkApart(t, x, y)
	scratch(&x)
	if s := core.Text(y); s != loop {
		t.Errorf("Loop, written into: %s", s)
	}
	if s := core.Text(sugar.Loop()); s != loop {
		t.Errorf("Loop, behind one that was written into: %s", s)
	}
	checkCore(t, `letrec x = x in x`, `(@ (\ #0) (@ LOOP (\ #0)))`)
}

// P7.2, Tree of each Kind of term.

func TestTreeOfEachKind(t *testing.T) {
	one, v0, v1 := number(1), variable("v0"), variable("v1")
	coreOne := coreInt(1)
	for _, c := range []struct {
		x    api.Term
		want api.Tree
	}{
		{coreLam(coreVar(0)), lam("v0", v0)},
		{coreLam(coreOne), lam("v0", one)},
		{coreLam(coreLam(coreVar(1))), lam("v0", lam("v1", v0))},
		{coreLam(coreLam(coreVar(0))), lam("v0", lam("v1", v1))},
		{coreApp(coreOne, coreInt(2)), app(one, number(2))},
		{coreCon("Nil"), con("Nil")},
		{api.Term{Kind: 4, Name: "Nil", L: []api.Term{}}, con("Nil")},
		{coreCon(con16, coreOne, coreInt(2), coreInt(3)), con(con16, one, number(2), number(3))},
		{coreCon("P", slices.Repeat([]api.Term{coreOne}, 8)...), con("P", slices.Repeat([]api.Tree{one}, 8)...)},
		{coreCase(coreOne, coreAlt("A", 0, coreInt(2))), choice(one, alt("A", number(2)))},
		{coreCase(coreOne, coreAlt("A", 1, coreVar(0))), choice(one, alt("A", v0, v0))},
		{coreCase(coreOne, coreAlt("A", 2, coreVar(0)), coreAlt("B", 0, coreOne)), choice(one, alt("A", v0, v1, v1), alt("B", one))},
		{coreInt(0), number(0)},
		{coreInt(42), number(42)},
		{coreInt(great), number(great)},
	} {
		checkTreeOf(t, c.x, c.want)
	}
	for _, sign := range []string{"+", "-", "*", "/", "<", "=="} {
		checkTreeOf(t, coreOp(sign, coreOne, coreInt(2)), op(sign, one, number(2)))
	}
}

func TestTreesOfOrdinaryTerms(t *testing.T) {
	for s, want := range map[string]string{
		`(\ (@ #0 #0))`:                `\v0. v0 v0`,
		`(@ (\ #0) 1)`:                 `(\v0. v0) 1`,
		`(@ (@ (\ (\ #1)) 1) 2)`:       `(\v0. \v1. v0) 1 2`,
		`(Cons 1 (Cons 2 (Nil)))`:      `Cons 1 (Cons 2 Nil)`,
		`(@ (A) 1)`:                    `(A) 1`,
		`(- 1 (- 2 3))`:                `1 - (2 - 3)`,
		`(== (< 1 2) (True))`:          `(1 < 2) == True`,
		`(\ (? #0 (A:0 #0) (B:0 1)))`:  `\v0. case v0 of { A -> v0 | B -> 1 }`,
		`LOOP`:                         `\v0. (\v1. v0 (v1 v1)) (\v1. v0 (v1 v1))`,
		`(@ (\ #0) (@ LOOP (\ #0)))`:   `(\v0. v0) ((\v0. (\v1. v0 (v1 v1)) (\v1. v0 (v1 v1))) (\v0. v0))`,
		`(@ (\ (@ #0 #0)) (\ (\ #0)))`: `(\v0. v0 v0) (\v0. \v1. v1)`,
		// The constructors may have other arities: Tree does not ask.
		`(A (A))`:                 `A A`,
		`(A (A) (A 1))`:           `A A (A 1)`,
		`(True 1)`:                `True 1`,
		`(? (A) (A:2 #0))`:        `case A of { A v0 v1 -> v1 }`,
		`(? (A) (True:1 (True)))`: `case A of { True v0 -> True }`,
	} {
		checkTree(t, s, want)
	}
}

// P7.2, names of binders.

func TestNamesOfBindersWithinOneAnother(t *testing.T) {
	for s, want := range map[string]string{
		`(\ 1)`:                         `\v0. 1`,
		`(\ (\ (\ (P #2 #1 #0))))`:      `\v0. \v1. \v2. P v0 v1 v2`,
		`(\ (@ #0 (\ (@ #1 (\ #2)))))`:  `\v0. v0 (\v1. v0 (\v2. v0))`,
		`(A (\ (B (\ (+ #0 (\ #1))))))`: `A (\v0. B (\v1. v1 + (\v2. v1)))`,
		// No, one and more variables of an alternative: each one counts.
		`(? 1 (A:0 (\ #0)))`:                             `case 1 of { A -> \v0. v0 }`,
		`(? 1 (A:1 (\ (@ #0 #1))))`:                      `case 1 of { A v0 -> \v1. v1 v0 }`,
		`(? 1 (A:2 (\ (P #0 #1 #2))))`:                   `case 1 of { A v0 v1 -> \v2. P v2 v1 v0 }`,
		`(? 1 (A:8 (\ (P #8 #7 #1 #0))))`:                `case 1 of { A v0 v1 v2 v3 v4 v5 v6 v7 -> \v8. P v0 v1 v7 v8 }`,
		`(\ (? #0 (A:0 #0)))`:                            `\v0. case v0 of { A -> v0 }`,
		`(\ (? #0 (A:1 (@ #0 #1))))`:                     `\v0. case v0 of { A v1 -> v1 v0 }`,
		`(\ (? #0 (A:3 (P #0 #1 #2 #3))))`:               `\v0. case v0 of { A v1 v2 v3 -> P v3 v2 v1 v0 }`,
		`(\ (\ (? #1 (A:2 (? #0 (B:2 (P #5 #0 #3)))))))`: `\v0. \v1. case v0 of { A v2 v3 -> case v3 of { B v4 v5 -> P v0 v5 v2 } }`,
		`(? 1 (A:2 (? #0 (A:0 (? #1 (A:1 (\ #0)))))))`:   `case 1 of { A v0 v1 -> case v1 of { A -> case v0 of { A v2 -> \v3. v3 } } }`,
	} {
		checkTree(t, s, want)
	}
}

func TestNamesOfBindersBesideOneAnother(t *testing.T) {
	for s, want := range map[string]string{
		`(@ (\ #0) (\ #0))`:                                 `(\v0. v0) (\v0. v0)`,
		`(A (\ #0) (\ (\ #1)) (\ #0))`:                      `A (\v0. v0) (\v0. \v1. v0) (\v0. v0)`,
		`(\ (+ (\ #0) (* (\ #1) #0)))`:                      `\v0. (\v1. v1) + (\v1. v0) * v0`,
		`(? (\ #0) (A:1 #0) (B:2 #0) (C:0 1))`:              `case \v0. v0 of { A v0 -> v0 | B v0 v1 -> v1 | C -> 1 }`,
		`(\ (? (\ #1) (A:1 #0) (B:2 (\ #0)) (C:0 (\ #1))))`: `\v0. case \v1. v0 of { A v1 -> v1 | B v1 v2 -> \v3. v3 | C -> \v1. v0 }`,
		`(@ (? 1 (A:3 #0)) (\ #0))`:                         `(case 1 of { A v0 v1 v2 -> v2 }) (\v0. v0)`,
		`(\ (@ (? #0 (A:3 #3)) (\ #1)))`:                    `\v0. (case v0 of { A v1 v2 v3 -> v0 }) (\v1. v0)`,
	} {
		checkTree(t, s, want)
	}
}

func TestNamesOfManyBinders(t *testing.T) {
	for n := 1; n < 130; n++ {
		for _, i := range []int{0, n / 2, n - 1} {
			x, want := coreVar(n-1-i), variable("v"+strconv.Itoa(i))
			for j := n - 1; j >= 0; j-- {
				x, want = coreLam(x), lam("v"+strconv.Itoa(j), want)
			}
			checkTreeOf(t, x, want)
		}
	}
	for n := range 9 {
		var l []api.Tree
		for i := range n {
			l = append(l, variable("v"+strconv.Itoa(95+i)))
		}
		for i := range n {
			x := coreCase(coreVar(94), coreAlt("A", n, coreLam(coreApp(coreVar(i+1), coreVar(n+95)))))
			a := alt("A", append(slices.Clone(l), lam("v"+strconv.Itoa(95+n), app(l[n-1-i], variable("v0"))))...)
			want := choice(variable("v0"), a)
			for j := range 95 {
				x, want = coreLam(x), lam("v"+strconv.Itoa(94-j), want)
			}
			checkTreeOf(t, x, want)
		}
	}
}

// P7.2: what has no tree.

// around are terms of which x is a part, each time at another place; of no free variables more than x.
func around(x api.Term) map[string]api.Term {
	one := coreInt(1)
	ones := slices.Repeat([]api.Term{one}, 7)
	return map[string]api.Term{
		"by itself":              x,
		"on the left of an app":  coreApp(x, one),
		"on the right of an app": coreApp(one, x),
		"in a con":               coreCon("A", x),
		"first in a con":         coreCon("A", append([]api.Term{x}, ones...)...),
		"last in a con":          coreCon("A", append(slices.Clone(ones), x)...),
		"looked at":              coreCase(x, coreAlt("A", 3, one)),
		"in an alternative":      coreCase(one, coreAlt("A", 0, x)),
		"in the last one":        coreCase(one, coreAlt("A", 8, one), coreAlt("B", 1, one), coreAlt("C", 0, x)),
		"on the left of a sum":   coreOp("+", x, one),
		"on the right of a sum":  coreOp("+", one, x),
		"far in":                 coreApp(coreCon("A", coreOp("<", one, coreCase(one, coreAlt("A", 0, coreApp(x, one))))), one),
		"in both":                coreApp(x, x),
	}
}

// within are terms of which x is a part within binders.
func within(x api.Term) map[string]api.Term {
	return map[string]api.Term{
		"in a function":     coreLam(x),
		"in two functions":  coreLam(coreLam(x)),
		"in an alternative": coreCase(coreInt(1), coreAlt("A", 8, x)),
		"in the last one":   coreCase(coreInt(1), coreAlt("A", 0, coreInt(1)), coreAlt("B", 2, x)),
	}
}

func checkNoTreeAnywhere(t *testing.T, what string, x api.Term) {
	t.Helper()
	for place, in := range around(x) {
		checkNoTree(t, what+" "+place, in)
		for further, y := range within(in) {
			checkNoTree(t, what+" "+place+" "+further, y)
		}
	}
}

func TestWhatFailedHasNoTree(t *testing.T) {
	checkNoTreeAnywhere(t, "failed", coreFail())
}

func TestNumbersThatHaveTreesOrNot(t *testing.T) {
	for _, n := range []int{fewest, fewest + 1, -great - 1, -great, -2, -1, great + 1, great + 2, most - 1, most} {
		checkNoTreeAnywhere(t, "number", coreInt(n))
	}
	for _, n := range []int{0, 1, 2, 9, 10, 4096, 1 << 32, great - 1, great} {
		checkTreeOf(t, coreInt(n), number(n))
		for place, x := range around(coreInt(n)) {
			checkHasTree(t, place, x)
			for further, y := range within(x) {
				checkHasTree(t, place+" "+further, y)
			}
		}
	}
}

func TestOpenTermsHaveNoTree(t *testing.T) {
	for _, n := range []int{0, 1, 2, 7, 8, 100, most - 1, most, -1, -2, fewest} {
		for place, x := range around(coreVar(n)) {
			checkNoTree(t, "variable "+place, x)
		}
		// Within so many binders it is closed, and not within one fewer.
		check := checkNoTree
		if n == 0 {
			check = checkHasTree
		}
		check(t, "variable in a function", coreLam(coreVar(n)))
		for binders := range 9 {
			check := checkNoTree
			if n >= 0 && n < binders {
				check = checkHasTree
			}
			check(t, "variable in an alternative", coreCase(coreInt(1), coreAlt("A", binders, coreVar(n))))
			if n >= 0 && n < binders+1 {
				check = checkHasTree
			}
			check(t, "variable in both", coreLam(coreCase(coreInt(1), coreAlt("A", binders, coreVar(n)))))
		}
	}
	for _, s := range []string{`#0`, `(@ (\ #0) #0)`, `(\ #1)`, `(\ (\ #2))`, `(? #0 (A:1 #0))`, `(? 1 (A:1 #0) (B:0 #0))`, `(@ (\ 1) (A (\ (\ #0)) #0))`, `(\ (@ (\ #1) (\ #2)))`} {
		checkNoTree(t, "open", readTerm(t, s))
	}
}

func TestTermsThatMayNotBe(t *testing.T) {
	one := coreInt(1)
	for what, x := range map[string]api.Term{
		"nothing":                    {},
		"of no kind":                 {Kind: 10},
		"of a kind below 0":          {Kind: -1},
		"of the greatest kind":       {Kind: most},
		"of no kind, with parts":     {Kind: 11, L: []api.Term{one, one}},
		"alternative":                coreAlt("A", 0, one),
		"variable of a name":         {Kind: 1, Name: "x"},
		"variable of a part":         {Kind: 1, L: []api.Term{one}},
		"function of nothing":        {Kind: 2},
		"function of two":            {Kind: 2, L: []api.Term{one, one}},
		"function of a name":         {Kind: 2, Name: "x", L: []api.Term{one}},
		"function of a number":       {Kind: 2, N: 1, L: []api.Term{one}},
		"applied to nothing":         {Kind: 3, L: []api.Term{one}},
		"applied to two":             {Kind: 3, L: []api.Term{one, one, one}},
		"con of a name":              coreCon("a"),
		"con without a name":         coreCon(""),
		"con of a long name":         coreCon(con16 + "Q"),
		"con of a number":            {Kind: 4, Name: "A", N: 1},
		"con of nine":                coreCon("A", slices.Repeat([]api.Term{one}, 9)...),
		"con of an alternative":      coreCon("A", coreAlt("A", 0, one)),
		"case of nothing":            {Kind: 5},
		"case without alternatives":  coreCase(one),
		"case of others":             coreCase(one, one),
		"case of an alternative":     coreCase(coreAlt("A", 0, one), coreAlt("A", 0, one)),
		"case of like ones":          coreCase(one, coreAlt("A", 0, one), coreAlt("A", 0, one)),
		"alternative of nine":        coreCase(one, coreAlt("A", 9, one)),
		"alternative of most":        coreCase(one, coreAlt("A", most, one)),
		"alternative of below 0":     coreCase(one, coreAlt("A", -1, one)),
		"alternative of a name":      coreCase(one, coreAlt("a", 0, one)),
		"alternative of nothing":     coreCase(one, api.Term{Kind: 6, Name: "A"}),
		"alternative of two":         coreCase(one, api.Term{Kind: 6, Name: "A", L: []api.Term{one, one}}),
		"number of a name":           {Kind: 7, Name: "x"},
		"number of a part":           {Kind: 7, L: []api.Term{one}},
		"operator of another sign":   coreOp("%", one, one),
		"operator of one":            {Kind: 8, Name: "+", L: []api.Term{one}},
		"operator of nothing":        {Kind: 8, Name: "+"},
		"operator with a number":     {Kind: 8, Name: "+", N: 1, L: []api.Term{one, one}},
		"failed, with a part":        {Kind: 9, L: []api.Term{one}},
		"a part that may not be, in": coreLam(api.Term{}),
	} {
		checkNoTreeAnywhere(t, what, x)
	}
}

// Core and Tree, held against readings that are made otherwise: as texts.

// coreText is the Text of the term of x, which is checked, within binders of those names, the last one first.
func coreText(x api.Tree, bound ...string) string {
	in := func(p api.Tree, names ...string) string {
		return coreText(p, append(names, bound...)...)
	}
	var parts []string
	for _, p := range x.L {
		if p.Kind != 8 && x.Kind > 5 && x.Kind != 8 || x.Kind == 3 {
			parts = append(parts, in(p))
		}
	}
	rest := strings.Join(append([]string{""}, parts...), " ")
	switch x.Kind {
	case 1:
		return "#" + strconv.Itoa(slices.Index(bound, x.Name))
	case 2:
		return `(\ ` + in(x.L[0], x.Name) + ")"
	case 3:
		return "(@" + rest + ")"
	case 4:
		return `(@ (\ ` + in(x.L[1], x.Name) + ") " + in(x.L[0]) + ")"
	case 5:
		return `(@ (\ ` + in(x.L[1], x.Name) + ") (@ " + loop + ` (\ ` + in(x.L[0], x.Name) + ")))"
	case 6, 10:
		return "(" + x.Name + rest + ")"
	case 7:
		for _, a := range x.L[1:] {
			var names []string
			for _, v := range a.L[:a.N] {
				names = append([]string{v.Name}, names...)
			}
			rest += " (" + a.Name + ":" + strconv.Itoa(a.N) + " " + in(a.L[a.N], names...) + ")"
		}
		return "(?" + rest + ")"
	}
	return strconv.Itoa(x.N)
}

// treeText is a text of the tree of x, within so many binders, with each part within signs.
func treeText(x api.Term, binders int) string {
	name := func(n int) string { return "v" + strconv.Itoa(n) }
	part := func(i, more int) string { return treeText(x.L[i], binders+more) }
	switch x.Kind {
	case 1:
		return name(binders - x.N - 1)
	case 2:
		return `(\` + name(binders) + "." + part(0, 1) + ")"
	case 3:
		return "(" + part(0, 0) + " " + part(1, 0) + ")"
	case 4:
		s := "(" + x.Name
		for i := range x.L {
			s += " " + part(i, 0)
		}
		return s + ")"
	case 5:
		s := "(case " + part(0, 0) + " of"
		for i, a := range x.L[1:] {
			s += map[bool]string{true: " { ", false: " | "}[i == 0] + a.Name
			for j := range a.N {
				s += " " + name(binders+j)
			}
			s += " -> " + treeText(a.L[0], binders+a.N)
		}
		return s + " })"
	case 8:
		return "(" + part(0, 0) + " " + x.Name + " " + part(1, 0) + ")"
	}
	return strconv.Itoa(x.N)
}

func pick[T any](r *rand.Rand, l ...T) T { return l[r.Intn(len(l))] }

// maker makes trees and terms at random; of a hundred names and constructors so many are wrong, more or less.
type maker struct {
	*rand.Rand
	wrong int
}

func (r maker) errs() bool { return r.Intn(100) < r.wrong }

// con is a constructor's name, and how many parts it has.
func (r maker) con() (string, int) {
	n := r.Intn(6)
	name := string("ABCDEF"[n : n+1])
	if n == 5 {
		name, n = pick(r.Rand, "True", "False"), 0
	}
	if r.errs() {
		n = r.Intn(9)
	}
	return name, n
}

// name is one to bind: there are few, so that many are bound again.
func (r maker) name() string { return pick(r.Rand, "x", "y", "z", "f", "v0", "v1") }

func (r maker) tree(deep int, bound ...string) api.Tree {
	if deep <= 0 || r.Intn(6) == 0 {
		if r.errs() {
			return variable(r.name())
		}
		if len(bound) > 0 && r.Intn(4) > 0 {
			return variable(pick(r.Rand, bound...))
		}
		return number(r.Intn(3))
	}
	part := func(names ...string) api.Tree {
		return r.tree(deep-1, append(slices.Clone(bound), names...)...)
	}
	name := r.name()
	switch r.Intn(8) {
	case 0:
		return lam(name, part(name))
	case 1:
		return app(part(), part())
	case 2:
		return let(name, part(), part(name))
	case 3:
		return rec(name, part(name), part(name))
	case 4:
		return op(pick(r.Rand, "+", "-", "*", "/", "<", "=="), part(), part())
	case 5, 6:
		s, n := r.con()
		x := con(s)
		for range n {
			x.L = append(x.L, part())
		}
		return x
	}
	x := choice(part())
	for range 1 + r.Intn(4) {
		s, n := r.con()
		twin := slices.ContainsFunc(x.L[1:], func(a api.Tree) bool { return a.Name == s })
		if len(x.L) > 1 && twin && !r.errs() {
			continue
		}
		a := api.Tree{Kind: 8, Name: s, N: n}
		var names []string
		for _, i := range r.Perm(9)[:n] {
			v := string("xyzfghijk"[i : i+1])
			if r.errs() {
				v = "x"
			}
			names = append(names, v)
			a.L = append(a.L, variable(v))
		}
		a.L = append(a.L, part(names...))
		x.L = append(x.L, a)
	}
	return x
}

// term is one that may be, within so many binders; it has a tree, if nothing is wrong.
func (r maker) term(deep, binders int) api.Term {
	if deep <= 0 || r.Intn(8) == 0 {
		if binders > 0 && r.Intn(4) > 0 {
			return coreVar(r.Intn(binders))
		}
		return pick(r.Rand, coreInt(r.Intn(3)), coreCon("A"), coreInt(great))
	}
	part := func(more int) api.Term { return r.term(deep-1, binders+more) }
	switch r.Intn(7) {
	case 0, 1:
		return coreLam(part(1))
	case 2:
		return coreApp(part(0), part(0))
	case 3:
		return coreOp(pick(r.Rand, "+", "-", "*", "/", "<", "=="), part(0), part(0))
	case 4, 5:
		s, n := r.con()
		x := coreCon(s)
		for range n {
			x.L = append(x.L, part(0))
		}
		return x
	}
	x := coreCase(part(0))
	for range 1 + r.Intn(4) {
		s, n := r.con()
		if !slices.ContainsFunc(x.L[1:], func(a api.Term) bool { return a.Name == s }) {
			x.L = append(x.L, coreAlt(s, n, part(n)))
		}
	}
	return x
}

func TestTreesAtRandom(t *testing.T) {
	t.Parallel()
	r := maker{rand.New(rand.NewSource(1)), 2}
	count := map[api.Errno]int{}
	for range 20000 {
		x := r.tree(r.Intn(6))
		for _, y := range []api.Tree{x, places(x, func() int { return r.Intn(100) })} {
			_, e := scope.Check(y)
			count[e]++
			if !checkLikeScope(t, y) {
				continue
			}
			got, _, _ := sugar.Core(y)
			if want := coreText(y); core.Text(got) != want {
				t.Errorf("Core(%s): %s, not %s", show.Text(y), core.Text(got), want)
			}
		}
	}
	for _, e := range []api.Errno{ok, errName, errArity, errTwice} {
		if count[e] < 300 {
			t.Errorf("error %d: %d trees", e, count[e])
		}
	}
}

// places is x, in which the places of trees are those that next tells.
func places(x api.Tree, next func() int) api.Tree {
	x.At, x.L = next(), slices.Clone(x.L)
	for i, p := range x.L {
		x.L[i] = places(p, next)
	}
	return x
}

// Places do not count for the term.
func TestPlacesAreOfNoMoment(t *testing.T) {
	r := maker{rand.New(rand.NewSource(2)), 0}
	for range 1000 {
		x := r.tree(r.Intn(6))
		want, _, e := sugar.Core(x)
		if e != ok {
			t.Fatalf("%s: error %d", show.Text(x), e)
		}
		checkCoreOf(t, "placed", places(x, func() int { return r.Int() }), want)
	}
}

func TestTermsAtRandom(t *testing.T) {
	t.Parallel()
	r := maker{rand.New(rand.NewSource(3)), 1}
	for range 10000 {
		x := r.term(r.Intn(6), 0)
		if s := treeText(x, 0); len(s) <= 4096 {
			checkTreeOf(t, x, tree.Bare(read(t, s)))
		}
	}
}

// P7.3.

// checkRound asks for Core of Tree of a term that has a tree, and tells if it is checked.
func checkRound(t *testing.T, x api.Term) bool {
	t.Helper()
	y, e := sugar.Tree(x)
	if e != ok || !tree.May(y) || !reflect.DeepEqual(trimmed(y), trimmed(tree.Bare(y))) {
		t.Errorf("Tree(%s): %s, error %d", told(core.Text(x)), told(y), e)
		return false
	}
	is := checkLikeScope(t, y)
	if is {
		checkCoreOf(t, show.Text(y), y, x)
	} else {
		// Names are bound, and unlike: arities alone can be wrong.
		checkFaultOf(t, show.Text(y), y, 0, errArity)
	}
	return is
}

func TestCoreOfTreeIsTheTerm(t *testing.T) {
	t.Parallel()
	r := maker{rand.New(rand.NewSource(4)), 8}
	count := map[bool]int{}
	for range 20000 {
		count[checkRound(t, r.term(r.Intn(7), 0))]++
	}
	if count[true] < 2000 || count[false] < 2000 {
		t.Error("too few of a sort", count)
	}
}

func TestCoreOfTreeOfNamedTerms(t *testing.T) {
	for s, want := range map[string]bool{
		`1`: true, `(\ #0)`: true, `LOOP`: true,
		`(@ (\ #0) (@ LOOP (\ #0)))`:            true,
		`(A (B) (C (B) (\ #0)))`:                true,
		`(? (A 1) (A:1 #0) (B:0 (True)))`:       true,
		`(? 1 (True:0 1) (False:0 2) (X:8 #7))`: true,
		`(A (A))`:                               false,
		`(True 1)`:                              false,
		`(@ (A) (A 1))`:                         false,
		`(? (A) (A:1 #0))`:                      false,
		`(? 1 (A:1 #0) (B:0 (A)))`:              false,
		`(\ (? #0 (A:1 #0) (True:8 1)))`:        false,
	} {
		if checkRound(t, readTerm(t, s)) != want {
			t.Errorf("%s: checked: %v", s, !want)
		}
	}
}

// small are the terms within so many binders, over few names and numbers, of so many levels at most; of two parts each one has half as many.
func small(deep, binders int) []api.Term {
	if deep < 1 {
		return nil
	}
	all := []api.Term{coreInt(0), coreCon("A")}
	for n := range binders {
		all = append(all, coreVar(n))
	}
	for _, p := range small(deep-1, binders+1) {
		all = append(all, coreLam(p))
	}
	parts := small(deep/2, binders)
	for _, p := range small(deep-1, binders) {
		all = append(all, coreCon("A", p), coreCon("B", p))
	}
	for _, a := range parts {
		for _, b := range parts {
			all = append(all, coreApp(a, b), coreOp("-", a, b), coreCase(a, coreAlt("A", 0, b)))
		}
		for n := range 3 {
			for _, b := range small(deep/2, binders+n) {
				all = append(all, coreCase(a, coreAlt("B", n, b)), coreCase(coreInt(0), coreAlt("A", n, b), coreAlt("B", 0, a)))
			}
		}
	}
	return all
}

func TestSmallTerms(t *testing.T) {
	t.Parallel()
	all := small(4, 0)
	count := map[bool]int{}
	for _, x := range all {
		checkTreeOf(t, x, tree.Bare(read(t, treeText(x, 0))))
		count[checkRound(t, x)]++
	}
	if count[true] < 500 || count[false] < 500 {
		t.Error("too few of a sort", count)
	}
}

func TestCoreTellsClosedTerms(t *testing.T) {
	t.Parallel()
	r := maker{rand.New(rand.NewSource(5)), 0}
	for range 10000 {
		x := r.tree(r.Intn(7))
		c, _, e := sugar.Core(x)
		if e != ok || !core.May(c, 0) {
			t.Errorf("Core(%s): %s, error %d", show.Text(x), core.Text(c), e)
		}
		// What is checked has one arity a constructor: so has its term's tree.
		if !checkRound(t, c) {
			t.Errorf("%s: the tree of its term is refused", show.Text(x))
		}
	}
}

// At as many levels as there may be.

// nested is x within so many of what is made.
func nested[T any](n int, x T, more func(i int, x T) T) T {
	for i := range n {
		x = more(n-1-i, x)
	}
	return x
}

// checkDeep asks for the Text of a deep tree's term: what stands ahead of the innermost part, it, what stands behind.
func checkDeep(t *testing.T, what string, x api.Tree, ahead, inner, behind string) {
	t.Helper()
	got, at, e := sugar.Core(x)
	if at != 0 || e != ok {
		t.Errorf("%s: error %d at %d", what, e, at)
		return
	}
	n := levels - 2
	if s := core.Text(got); s != strings.Repeat(ahead, n)+inner+strings.Repeat(behind, n) {
		t.Errorf("%s: another term: %s", what, told(s))
	}
}

func TestDeepTrees(t *testing.T) {
	t.Parallel()
	x, one, n := variable("x"), number(1), levels-2
	name := func(i int) string { return "x" + strconv.Itoa(i) }
	checkDeep(t, "functions", nested(n, x, func(_ int, b api.Tree) api.Tree { return lam("x", b) }), `(\ `, "#0", ")")
	checkDeep(t, "functions, the first", nested(n, variable("x0"), func(i int, b api.Tree) api.Tree { return lam(name(i), b) }), `(\ `, "#"+strconv.Itoa(n-1), ")")
	checkDeep(t, "applied, left", nested(n, one, func(_ int, b api.Tree) api.Tree { return app(b, one) }), "(@ ", "1", " 1)")
	checkDeep(t, "applied, right", nested(n, one, func(_ int, b api.Tree) api.Tree { return app(one, b) }), "(@ 1 ", "1", ")")
	checkDeep(t, "lets", nested(n, x, func(_ int, b api.Tree) api.Tree { return let("x", one, b) }), `(@ (\ `, "#0", ") 1)")
	checkDeep(t, "lets, within", nested(n, one, func(_ int, b api.Tree) api.Tree { return let("x", b, x) }), `(@ (\ #0) `, "1", ")")
	checkDeep(t, "letrecs", nested(n, x, func(_ int, b api.Tree) api.Tree { return rec("x", x, b) }), `(@ (\ `, "#0", ") (@ "+loop+` (\ #0)))`)
	checkDeep(t, "letrecs, within", nested(n, x, func(_ int, b api.Tree) api.Tree { return rec("x", b, x) }), `(@ (\ #0) (@ `+loop+` (\ `, "#0", ")))")
	checkDeep(t, "cons", nested(n, one, func(_ int, b api.Tree) api.Tree { return con("A", one, b) }), "(A 1 ", "1", ")")
	checkDeep(t, "cases", nested(n, one, func(_ int, b api.Tree) api.Tree { return choice(b, alt("A", x, x)) }), "(? ", "1", " (A:1 #0))")
	checkDeep(t, "alternatives", nested(n, x, func(_ int, b api.Tree) api.Tree { return choice(one, alt("A", x, variable("y"), b)) }), "(? 1 (A:2 ", "#1", "))")
	checkDeep(t, "sums", nested(n, one, func(_ int, b api.Tree) api.Tree { return op("+", b, one) }), "(+ ", "1", " 1)")
	// At each level the one that is furthest out is used.
	all := nested(n, number(1), func(i int, b api.Tree) api.Tree { return lam(name(i), app(variable("x0"), b)) })
	got, _, e := sugar.Core(all)
	for i := 0; e == ok && i < n; i++ {
		if b := got.L[0]; b.L[0].N != i {
			t.Fatalf("function %d: #%d", i, b.L[0].N)
		}
		got = got.L[0].L[1]
	}
	if e != ok || got.Kind != 7 {
		t.Errorf("functions: error %d, within them %v", e, got)
	}
	checkFaultOf(t, "a free one, far in", nested(n, api.Tree{Kind: 1, Name: "y", At: 5}, func(_ int, b api.Tree) api.Tree { return lam("x", b) }), 5, errName)
	checkFaultOf(t, "one that may not be, far in", nested(n, api.Tree{}, func(_ int, b api.Tree) api.Tree { return lam("x", b) }), 0, errArg)
}

func TestDeepTerms(t *testing.T) {
	t.Parallel()
	one, n := coreInt(1), levels-2
	function := func(_ int, b api.Term) api.Term { return coreLam(b) }
	x, e := sugar.Tree(nested(n, coreVar(n-1), function))
	for i := 0; e == ok && i < n; i++ {
		if want := "v" + strconv.Itoa(i); x.Kind != 2 || x.Name != want {
			t.Fatalf("function %d: %d, %q", i, x.Kind, x.Name)
		}
		x = x.L[0]
	}
	if e != ok || x.Kind != 1 || x.Name != "v0" {
		t.Errorf("functions: error %d, within them %v", e, x)
	}
	n /= 2
	for what, c := range map[string]api.Term{
		"applied":      nested(n, one, func(_ int, b api.Term) api.Term { return coreApp(coreLam(b), one) }),
		"alternatives": nested(n, one, func(_ int, b api.Term) api.Term { return coreCase(coreCon("A"), coreAlt("B", 8, b)) }),
		"cases":        nested(n, one, func(_ int, b api.Term) api.Term { return coreCase(b, coreAlt("B", 8, coreVar(7))) }),
		"sums":         nested(n, one, func(_ int, b api.Term) api.Term { return coreOp("+", one, b) }),
		"cons":         nested(n, coreCon("A"), func(_ int, b api.Term) api.Term { return coreCon("B", b, coreCon("A")) }),
	} {
		y, e := sugar.Tree(c)
		if e != ok || tree.Depth(y) != core.Depth(c) {
			t.Errorf("%s: error %d, %d levels", what, e, tree.Depth(y))
		}
		checkCoreOf(t, what, y, c)
	}
	for _, leaf := range []api.Term{coreFail(), coreInt(-1), coreInt(great + 1), coreVar(n), {}} {
		checkNoTree(t, "far in", nested(n, leaf, function))
	}
}

func TestWideTrees(t *testing.T) {
	// A row of applications, each with a variable of its own name, and all of them bound.
	n := 4096
	x, want := number(1), coreInt(1)
	for i := range n {
		x, want = app(x, variable("x"+strconv.Itoa(i))), coreApp(want, coreVar(n-1-i))
	}
	for i := n - 1; i >= 0; i-- {
		x, want = lam("x"+strconv.Itoa(i), x), coreLam(want)
	}
	checkCoreOf(t, "wide", x, want)
	one := coreInt(1)
	for kind := range 11 {
		checkNoTree(t, "wide", api.Term{Kind: kind, Name: "A", L: slices.Repeat([]api.Term{one}, 100000)})
		checkFaultOf(t, "wide", api.Tree{Kind: kind, Name: "A", L: slices.Repeat([]api.Tree{number(1)}, 100000)}, 0, errArg)
	}
	long := strings.Repeat("A", 100000)
	checkNoTree(t, "long", coreCon(long))
	checkFaultOf(t, "long", con(long), 0, errArg)
	checkFaultOf(t, "long", lam(strings.ToLower(long), number(1)), 0, errArg)
}

// P1, and the rules: every call ends, none panics; nothing is changed, shared, or kept.

func wildTree(r *rand.Rand, deep int) api.Tree {
	x := api.Tree{
		Kind: pick(r, 1, 2, 3, 4, 5, 6, 7, 8, 9, 10, 0, -1, 11, fewest, most),
		N:    pick(r, 0, 0, 0, 1, 2, 8, 9, -1, fewest, most),
		Name: pick(r, "", "", "x", "A", "+", "(", "\xff", "let"),
		At:   pick(r, 0, 0, 1, -1, fewest, most),
	}
	for range r.Intn(4) {
		if deep > 0 {
			x.L = append(x.L, wildTree(r, deep-1))
		}
	}
	return x
}

func wildTerm(r *rand.Rand, deep int) api.Term {
	x := api.Term{
		Kind: pick(r, 1, 2, 3, 4, 5, 6, 7, 8, 9, 0, -1, 10, fewest, most),
		N:    pick(r, 0, 0, 0, 1, 2, 8, 9, -1, fewest, most),
		Name: pick(r, "", "", "x", "A", "+", "(", "\xff", "let"),
	}
	for range r.Intn(4) {
		if deep > 0 {
			x.L = append(x.L, wildTerm(r, deep-1))
		}
	}
	return x
}

// hasTree tells if x is to have a tree: it is closed, and what it has can be written.
func hasTree(x api.Term) bool {
	words := strings.FieldsFunc(core.Text(x), func(c rune) bool { return strings.ContainsRune("() ", c) })
	return core.May(x, 0) && !slices.ContainsFunc(words, func(word string) bool {
		n, err := strconv.Atoi(word)
		return word == "!" || err == nil && (n < 0 || n > great)
	})
}

func checkAny(t *testing.T, x api.Tree, c api.Term) {
	t.Helper()
	checkLikeScope(t, x)
	if !hasTree(c) {
		checkNoTree(t, "any", c)
		return
	}
	checkRound(t, c)
}

func TestWildTreesAndTerms(t *testing.T) {
	t.Parallel()
	r := rand.New(rand.NewSource(6))
	for range 20000 {
		checkAny(t, wildTree(r, r.Intn(4)), wildTerm(r, r.Intn(4)))
	}
}

// harmTree changes one thing of x, or of one of its parts.
func harmTree(r *rand.Rand, x *api.Tree) {
	if len(x.L) > 0 && r.Intn(4) > 0 {
		harmTree(r, &x.L[r.Intn(len(x.L))])
		return
	}
	y := wildTree(r, 1)
	switch r.Intn(5) {
	case 0:
		x.Kind = y.Kind
	case 1:
		x.Name = y.Name
	case 2:
		x.N = y.N
	case 3:
		x.At = y.At
	case 4:
		x.L = y.L
	}
}

func harmTerm(r *rand.Rand, x *api.Term) {
	if len(x.L) > 0 && r.Intn(4) > 0 {
		harmTerm(r, &x.L[r.Intn(len(x.L))])
		return
	}
	y := wildTerm(r, 1)
	switch r.Intn(4) {
	case 0:
		x.Kind = y.Kind
	case 1:
		x.Name = y.Name
	case 2:
		x.N = y.N
	case 3:
		x.L = y.L
	}
}

func TestHarmedTreesAndTerms(t *testing.T) {
	t.Parallel()
	r := maker{rand.New(rand.NewSource(7)), 1}
	for range 20000 {
		x, c := r.tree(r.Intn(5)), r.term(r.Intn(5), 0)
		harmTree(r.Rand, &x)
		harmTerm(r.Rand, &c)
		checkAny(t, x, c)
	}
}

// roomyTree is x, each of whose lists has room behind it.
func roomyTree(x api.Tree) api.Tree {
	l := []api.Tree{}
	for _, p := range x.L {
		l = append(l, roomyTree(p))
	}
	x.Name = strings.Clone(x.Name)
	x.L = append(l, number(77), number(78))[:len(l)]
	return x
}

func roomyTerm(x api.Term) api.Term {
	l := []api.Term{}
	for _, p := range x.L {
		l = append(l, roomyTerm(p))
	}
	x.Name = strings.Clone(x.Name)
	x.L = append(l, coreInt(77), coreInt(78))[:len(l)]
	return x
}

func checkTreeRoom(t *testing.T, x api.Tree) {
	t.Helper()
	n := len(x.L)
	if behind := x.L[n : n+2]; behind[0].N != 77 || behind[1].N != 78 {
		t.Errorf("behind a list of %v something was changed: %v", x, behind)
	}
	for _, p := range x.L {
		checkTreeRoom(t, p)
	}
}

func checkTermRoom(t *testing.T, x api.Term) {
	t.Helper()
	n := len(x.L)
	if behind := x.L[n : n+2]; behind[0].N != 77 || behind[1].N != 78 {
		t.Errorf("behind a list of %v something was changed: %v", x, behind)
	}
	for _, p := range x.L {
		checkTermRoom(t, p)
	}
}

// scratch writes over x and all its parts.
func scratch(x *api.Term) {
	for i := range x.L {
		scratch(&x.L[i])
	}
	*x = api.Term{Kind: 77, N: 77, Name: "scratched"}
}

func scratchTree(x *api.Tree) {
	for i := range x.L {
		scratchTree(&x.L[i])
	}
	*x = api.Tree{Kind: 77, N: 77, Name: "scratched"}
}

// memory is where the lists of x lie, and where its names do.
func memory(x any) (lists, names []unsafe.Pointer) {
	note := func(name string, list unsafe.Pointer, room int, parts ...any) {
		if name != "" {
			names = append(names, unsafe.Pointer(unsafe.StringData(name)))
		}
		if room > 0 {
			lists = append(lists, list)
		}
		for _, p := range parts {
			l, n := memory(p)
			lists, names = append(lists, l...), append(names, n...)
		}
	}
	var parts []any
	switch x := x.(type) {
	case api.Tree:
		for _, p := range x.L {
			parts = append(parts, p)
		}
		note(x.Name, unsafe.Pointer(unsafe.SliceData(x.L)), cap(x.L), parts...)
	case api.Term:
		for _, p := range x.L {
			parts = append(parts, p)
		}
		note(x.Name, unsafe.Pointer(unsafe.SliceData(x.L)), cap(x.L), parts...)
	}
	return lists, names
}

// checkApart asks that no two lists of the answer are one, and that it shares neither lists nor names with others.
func checkApart(t *testing.T, answer any, others ...any) {
	t.Helper()
	seen := map[unsafe.Pointer]int{}
	for _, x := range others {
		lists, names := memory(x)
		for _, p := range append(lists, names...) {
			seen[p]++
		}
	}
	lists, names := memory(answer)
	if slices.ContainsFunc(names, func(p unsafe.Pointer) bool { return seen[p] > 0 }) {
		t.Errorf("%s shares a name", told(answer))
	}
	for _, p := range lists {
		if seen[p] > 0 {
			t.Errorf("%s shares a list", told(answer))
			return
		}
		seen[p]++
	}
}

func TestArgumentsAreLeft(t *testing.T) {
	r := maker{rand.New(rand.NewSource(8)), 1}
	for i := range 2000 {
		want, wantTerm := r.tree(r.Intn(5)), r.term(r.Intn(5), 0)
		if i%4 == 0 {
			want, wantTerm = wildTree(r.Rand, 3), wildTerm(r.Rand, 3)
		}
		x, c := roomyTree(want), roomyTerm(wantTerm)
		made, _, _ := sugar.Core(x)
		written, _ := sugar.Tree(c)
		checkApart(t, made, x)
		checkApart(t, written, c)
		scratch(&made)
		scratchTree(&written)
		if !reflect.DeepEqual(trimmed(x), trimmed(want)) {
			t.Errorf("%v was changed: %v", want, x)
		}
		if !core.Same(c, wantTerm) {
			t.Errorf("%v was changed: %v", wantTerm, c)
		}
		checkTreeRoom(t, x)
		checkTermRoom(t, c)
	}
}

// Two letrecs have loops of their own, and two answers lists of their own.
func TestAnswersShareNothing(t *testing.T) {
	x := read(t, `letrec x = letrec y = x y in Cons y (\z. Cons z Nil) in letrec z = Cons x z in case z of { Cons a b -> Cons a b | Nil -> Nil }`)
	made, _, _ := sugar.Core(x)
	again, _, _ := sugar.Core(x)
	checkApart(t, made, x, again, sugar.Loop())
	first, _ := sugar.Tree(made)
	second, _ := sugar.Tree(made)
	checkApart(t, first, made, second)
	scratch(&made)
	scratchTree(&first)
	if core.Text(again) != coreText(x) {
		t.Errorf("a term was changed with another one: %s", core.Text(again))
	}
	checkTreeOf(t, again, second)
}

// Parts that share their lists are each as if they had their own.
func TestArgumentsThatShare(t *testing.T) {
	shared := lam("x", variable("x"))
	checkCoreOf(t, "shared", lam("x", con("A", shared, lam("y", shared), shared)), readTerm(t, `(\ (A (\ #0) (\ (\ #0)) (\ #0)))`))
	id := coreLam(coreVar(0))
	checkTreeOf(t, coreLam(coreCon("A", id, coreLam(id), id)), tree.Bare(read(t, `\v0. A (\v1. v1) (\v1. \v2. v2) (\v1. v1)`)))
	one, e := sugar.Tree(coreApp(id, id))
	if e != ok {
		t.Fatal(e)
	}
	checkApart(t, one)
}

func TestEmptyListsAndNilOnes(t *testing.T) {
	empty := []api.Tree{}
	checkCoreOf(t, "variable", lam("x", api.Tree{Kind: 1, Name: "x", L: empty}), coreLam(coreVar(0)))
	checkCoreOf(t, "con", api.Tree{Kind: 6, Name: "A", L: empty}, coreCon("A"))
	checkCoreOf(t, "number", api.Tree{Kind: 9, N: 4, L: empty}, coreInt(4))
	checkFaultOf(t, "function", api.Tree{Kind: 2, Name: "x", L: empty}, 0, errArg)
	none := []api.Term{}
	checkTreeOf(t, coreLam(api.Term{Kind: 1, L: none}), lam("v0", variable("v0")))
	checkTreeOf(t, api.Term{Kind: 4, Name: "A", L: none}, con("A"))
	checkTreeOf(t, api.Term{Kind: 7, N: 4, L: none}, number(4))
	checkNoTree(t, "failed", api.Term{Kind: 9, L: none})
	checkNoTree(t, "function", api.Term{Kind: 2, L: none})
}

// checkAll asks for some trees and terms, whose answers are known.
func checkAll(t *testing.T) {
	t.Helper()
	checkCore(t, `\x. let x = x in letrec y = x in case y of { A x -> x y | B -> x }`, `(\ (@ (\ (@ (\ (? #0 (A:1 (@ #0 #1)) (B:0 #1))) (@ LOOP (\ #1)))) #0))`)
	checkFault(t, `A (\x. x) ^x`, errName)
	checkFault(t, `A (^A x y)`, errArity)
	checkFault(t, `case 1 of { ^A x x -> 1 }`, errTwice)
	checkFaultOf(t, "nothing", api.Tree{}, 0, errArg)
	checkTree(t, `(\ (? #0 (A:2 (@ #0 #1)) (B:0 (\ #0))))`, `\v0. case v0 of { A v1 v2 -> v2 v1 | B -> \v1. v1 }`)
	checkNoTree(t, "open", readTerm(t, `(\ #1)`))
	checkNoTree(t, "failed", readTerm(t, `(\ !)`))
	if s := core.Text(sugar.Loop()); s != loop {
		t.Errorf("Loop: %s", s)
	}
}

func TestNothingIsKept(t *testing.T) {
	for range 20 {
		checkAll(t)
	}
	// What was bound in one call, also in one that ended with an error, is free in the next one.
	checkCore(t, `\x. x`, `(\ #0)`)
	checkFault(t, `^x`, errName)
	checkFault(t, `\x. ^y`, errName)
	checkFault(t, `^x`, errName)
	checkCore(t, `\y. y`, `(\ #0)`)
}

func TestCallsAtOneTime(t *testing.T) {
	var wait sync.WaitGroup
	for range 8 {
		wait.Add(1)
		go func() {
			defer wait.Done()
			for range 20 {
				checkAll(t)
			}
		}()
	}
	wait.Wait()
}
