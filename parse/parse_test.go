package parse_test

import (
	"math"
	"math/rand"
	"reflect"
	"slices"
	"strconv"
	"strings"
	"sync"
	"testing"
	"unsafe"

	"gossamer/api"
	"gossamer/lex"
	"gossamer/parse"
	"gossamer/tree"
)

// Kinds, limits and errors are written as numbers: the chapters tell them so.
const (
	ok      api.Errno = 0
	errArg  api.Errno = 1
	errChar api.Errno = 10
	errLong api.Errno = 11
	errForm api.Errno = 30
	errDeep api.Errno = 31
	errBig  api.Errno = 32

	deepest = 200
	longest = 4096
)

// Trees are written with the place ahead at which they begin.

func variable(at int, s string) api.Tree { return api.Tree{Kind: 1, Name: s, At: at} }
func number(at int, n int) api.Tree      { return api.Tree{Kind: 9, N: n, At: at} }

func lam(at int, s string, b api.Tree) api.Tree {
	return api.Tree{Kind: 2, Name: s, At: at, L: []api.Tree{b}}
}

func app(at int, f, a api.Tree) api.Tree {
	return api.Tree{Kind: 3, At: at, L: []api.Tree{f, a}}
}

func let(at int, s string, x, b api.Tree) api.Tree {
	return api.Tree{Kind: 4, Name: s, At: at, L: []api.Tree{x, b}}
}

func rec(at int, s string, x, b api.Tree) api.Tree {
	return api.Tree{Kind: 5, Name: s, At: at, L: []api.Tree{x, b}}
}

func con(at int, s string, l ...api.Tree) api.Tree {
	return api.Tree{Kind: 6, Name: s, At: at, L: l}
}

func choice(at int, x api.Tree, alts ...api.Tree) api.Tree {
	return api.Tree{Kind: 7, At: at, L: append([]api.Tree{x}, alts...)}
}

// alt is an alternative with as many variables as it has parts, less one.
func alt(at int, s string, l ...api.Tree) api.Tree {
	return api.Tree{Kind: 8, Name: s, N: len(l) - 1, At: at, L: l}
}

func op(at int, s string, a, b api.Tree) api.Tree {
	return api.Tree{Kind: 10, Name: s, At: at, L: []api.Tree{a, b}}
}

// noEmpties is t with nil for empty lists: which of them an answer has is left open.
func noEmpties(t api.Tree) api.Tree {
	l := t.L
	t.L = nil
	for _, p := range l {
		t.L = append(t.L, noEmpties(p))
	}
	return t
}

// moved is t, begun that much further on.
func moved(t api.Tree, n int) api.Tree {
	t.At, t.L = t.At+n, slices.Clone(t.L)
	for i, p := range t.L {
		t.L[i] = moved(p, n)
	}
	return t
}

func short(s string) string {
	if len(s) > 300 {
		return s[:300] + ".."
	}
	return s
}

func checkRead(t *testing.T, s string, deep int, want api.Tree) {
	t.Helper()
	got, at, e := parse.Parse(s, deep)
	if e != ok || at != 0 {
		t.Errorf("Parse(%q, %d): error %d at %d", short(s), deep, e, at)
		return
	}
	if !reflect.DeepEqual(noEmpties(got), noEmpties(want)) {
		t.Errorf("Parse(%q, %d):\n%v\nnot\n%v", short(s), deep, got, want)
	}
}

func checkTree(t *testing.T, s string, want api.Tree) {
	t.Helper()
	checkRead(t, s, deepest, want)
}

// checkWithin asks for s by itself, and where signs and other things are around it.
func checkWithin(t *testing.T, s string, want api.Tree) {
	t.Helper()
	checkTree(t, s, want)
	checkTree(t, " \n\t"+s+" ", moved(want, 3))
	checkTree(t, "("+s+")", moved(want, 1))
	checkTree(t, "( (("+s+")) )", moved(want, 4))
	checkTree(t, "f ("+s+")", app(0, variable(0, "f"), moved(want, 3)))
	checkTree(t, "("+s+")1", app(0, moved(want, 1), number(len(s)+2, 1)))
	checkTree(t, "A("+s+")", con(0, "A", moved(want, 2)))
	checkTree(t, "("+s+")<1", op(0, "<", moved(want, 1), number(len(s)+3, 1)))
	checkTree(t, "1*("+s+")", op(0, "*", number(0, 1), moved(want, 3)))
	checkTree(t, `\x.`+s, lam(0, "x", moved(want, 3)))
	checkTree(t, "let x="+s+" in x", let(0, "x", moved(want, 6), variable(len(s)+10, "x")))
	checkTree(t, "letrec x=1 in "+s, rec(0, "x", number(9, 1), moved(want, 14)))
	checkTree(t, "case "+s+" of{A->1}", choice(0, moved(want, 5), alt(len(s)+9, "A", number(len(s)+12, 1))))
	checkTree(t, "case 1 of{A->"+s+"|B->2}",
		choice(0, number(5, 1), alt(10, "A", moved(want, 13)), alt(len(s)+14, "B", number(len(s)+17, 2))))
}

func checkFault(t *testing.T, s string, deep int, at int, e api.Errno) {
	t.Helper()
	got, place, no := parse.Parse(s, deep)
	if place != at || no != e {
		t.Errorf("Parse(%q, %d): error %d at %d, not %d at %d", short(s), deep, no, place, e, at)
	}
	if got.Kind != 0 || got.Name != "" || got.N != 0 || got.At != 0 || len(got.L) != 0 {
		t.Errorf("Parse(%q, %d): a tree beside error %d: %v", short(s), deep, no, got)
	}
}

// checkForm asks for what is no expr, from that place on.
func checkForm(t *testing.T, s string, at int) {
	t.Helper()
	checkFault(t, s, deepest, at, errForm)
}

// P3.1, each form of the grammar, alone and within signs.

func TestAtoms(t *testing.T) {
	checkWithin(t, "x", variable(0, "x"))
	checkWithin(t, "abcdefghijklmnop", variable(0, "abcdefghijklmnop"))
	checkWithin(t, "lets", variable(0, "lets"))
	checkWithin(t, "Nil", con(0, "Nil"))
	checkWithin(t, "ABCDEFGHIJKLMNOP", con(0, "ABCDEFGHIJKLMNOP"))
	checkWithin(t, "Let", con(0, "Let"))
	checkWithin(t, "0", number(0, 0))
	checkWithin(t, "42", number(0, 42))
	checkWithin(t, "999999999999999999", number(0, 999999999999999999))
}

func TestFunctions(t *testing.T) {
	checkWithin(t, `\x.x`, lam(0, "x", variable(3, "x")))
	checkWithin(t, `\x. \ y . x y`, lam(0, "x", lam(4, "y", app(10, variable(10, "x"), variable(12, "y")))))
	checkWithin(t, `\x. x + 1`, lam(0, "x", op(4, "+", variable(4, "x"), number(8, 1))))
	checkWithin(t, `\x. let y = x in y`, lam(0, "x", let(4, "y", variable(12, "x"), variable(17, "y"))))
	checkWithin(t, `(\x. x x) (\x. x x)`, app(0,
		lam(1, "x", app(5, variable(5, "x"), variable(7, "x"))),
		lam(11, "x", app(15, variable(15, "x"), variable(17, "x")))))
}

func TestLets(t *testing.T) {
	checkWithin(t, "let x = 1 in x", let(0, "x", number(8, 1), variable(13, "x")))
	checkWithin(t, "letrec x = 1 in x", rec(0, "x", number(11, 1), variable(16, "x")))
	checkWithin(t, "let x = 2 * 3 in Cons x x", let(0, "x", op(8, "*", number(8, 2), number(12, 3)),
		con(17, "Cons", variable(22, "x"), variable(24, "x"))))
	checkWithin(t, "let x = let y = 1 in y in letrec z = x in z", let(0, "x",
		let(8, "y", number(16, 1), variable(21, "y")),
		rec(26, "z", variable(37, "x"), variable(42, "z"))))
	checkWithin(t, `letrec f = \n. f n in f 3`, rec(0, "f",
		lam(11, "n", app(15, variable(15, "f"), variable(17, "n"))),
		app(22, variable(22, "f"), number(24, 3))))
	checkWithin(t, "let x=(1)in x", let(0, "x", number(7, 1), variable(12, "x")))
}

func TestCases(t *testing.T) {
	checkWithin(t, "case x of {A -> 1}", choice(0, variable(5, "x"), alt(11, "A", number(16, 1))))
	checkWithin(t, "case l of { Nil -> 0 | Cons h t -> h }", choice(0, variable(5, "l"),
		alt(12, "Nil", number(19, 0)),
		alt(23, "Cons", variable(28, "h"), variable(30, "t"), variable(35, "h"))))
	checkWithin(t, "case case x of{A->B}of{B->C|D y->y}", choice(0,
		choice(5, variable(10, "x"), alt(15, "A", con(18, "B"))),
		alt(23, "B", con(26, "C")),
		alt(28, "D", variable(30, "y"), variable(33, "y"))))
	checkWithin(t, "case x of{A->case y of{B->1|C->2}|D->3}", choice(0, variable(5, "x"),
		alt(10, "A", choice(13, variable(18, "y"), alt(23, "B", number(26, 1)), alt(28, "C", number(31, 2)))),
		alt(34, "D", number(37, 3))))
	checkWithin(t, `case f 1 of{A->\x.x|B->let y=1 in y|C->1<2}`, choice(0, app(5, variable(5, "f"), number(7, 1)),
		alt(12, "A", lam(15, "x", variable(18, "x"))),
		alt(20, "B", let(23, "y", number(29, 1), variable(34, "y"))),
		alt(36, "C", op(39, "<", number(39, 1), number(41, 2)))))
	checkWithin(t, "case x of{A a a->1|A->2}", choice(0, variable(5, "x"),
		alt(10, "A", variable(12, "a"), variable(14, "a"), number(17, 1)), alt(19, "A", number(22, 2))))
}

func TestOperators(t *testing.T) {
	for _, s := range []string{"+", "-", "*", "/", "<", "=="} {
		checkWithin(t, "x"+s+"1", op(0, s, variable(0, "x"), number(1+len(s), 1)))
		checkWithin(t, "f 1 "+s+" A 2", op(0, s, app(0, variable(0, "f"), number(2, 1)), con(5+len(s), "A", number(7+len(s), 2))))
	}
	checkWithin(t, "f x + 1", op(0, "+", app(0, variable(0, "f"), variable(2, "x")), number(6, 1)))
	checkWithin(t, "1+2*3", op(0, "+", number(0, 1), op(2, "*", number(2, 2), number(4, 3))))
	checkWithin(t, "1*2+3", op(0, "+", op(0, "*", number(0, 1), number(2, 2)), number(4, 3)))
	checkWithin(t, "1/2-3/4", op(0, "-", op(0, "/", number(0, 1), number(2, 2)), op(4, "/", number(4, 3), number(6, 4))))
	checkWithin(t, "1+2<3-4", op(0, "<", op(0, "+", number(0, 1), number(2, 2)), op(4, "-", number(4, 3), number(6, 4))))
	checkWithin(t, "1*2==3", op(0, "==", op(0, "*", number(0, 1), number(2, 2)), number(5, 3)))
	checkWithin(t, "1==2/3", op(0, "==", number(0, 1), op(3, "/", number(3, 2), number(5, 3))))
	checkWithin(t, "(1+2)*3", op(0, "*", op(1, "+", number(1, 1), number(3, 2)), number(6, 3)))
	checkWithin(t, "1*(2+3)", op(0, "*", number(0, 1), op(3, "+", number(3, 2), number(5, 3))))
	checkWithin(t, "(1<2)<3", op(0, "<", op(1, "<", number(1, 1), number(3, 2)), number(6, 3)))
	checkWithin(t, "1==(2<3)", op(0, "==", number(0, 1), op(4, "<", number(4, 2), number(6, 3))))
}

func TestWhatIsFurtherLeftIsFirst(t *testing.T) {
	checkWithin(t, "1 - 2 - 3", op(0, "-", op(0, "-", number(0, 1), number(4, 2)), number(8, 3)))
	checkWithin(t, "1 - (2 - 3)", op(0, "-", number(0, 1), op(5, "-", number(5, 2), number(9, 3))))
	checkWithin(t, "1-2+3-4", op(0, "-", op(0, "+", op(0, "-", number(0, 1), number(2, 2)), number(4, 3)), number(6, 4)))
	checkWithin(t, "1/2*3/4", op(0, "/", op(0, "*", op(0, "/", number(0, 1), number(2, 2)), number(4, 3)), number(6, 4)))
	checkWithin(t, "1+2*3+4", op(0, "+", op(0, "+", number(0, 1), op(2, "*", number(2, 2), number(4, 3))), number(6, 4)))
	checkWithin(t, "f x y", app(0, app(0, variable(0, "f"), variable(2, "x")), variable(4, "y")))
	checkWithin(t, "f (x y)", app(0, variable(0, "f"), app(3, variable(3, "x"), variable(5, "y"))))
	checkWithin(t, "f x y z", app(0, app(0, app(0, variable(0, "f"), variable(2, "x")), variable(4, "y")), variable(6, "z")))
}

func TestApplied(t *testing.T) {
	checkWithin(t, "f 1", app(0, variable(0, "f"), number(2, 1)))
	checkWithin(t, "1 f", app(0, number(0, 1), variable(2, "f")))
	checkWithin(t, "1(2)3", app(0, app(0, number(0, 1), number(2, 2)), number(4, 3)))
	checkWithin(t, "f A x", app(0, app(0, variable(0, "f"), con(2, "A")), variable(4, "x")))
	checkWithin(t, "f(A x)", app(0, variable(0, "f"), con(2, "A", variable(4, "x"))))
	checkWithin(t, `f(\x.x)(1+2)`, app(0, app(0, variable(0, "f"), lam(2, "x", variable(5, "x"))), op(8, "+", number(8, 1), number(10, 2))))
}

func TestConstructors(t *testing.T) {
	checkWithin(t, "A 1", con(0, "A", number(2, 1)))
	checkWithin(t, "Cons x Nil", con(0, "Cons", variable(5, "x"), con(7, "Nil")))
	checkWithin(t, "A B C", con(0, "A", con(2, "B"), con(4, "C")))
	checkWithin(t, "A(B C)", con(0, "A", con(2, "B", con(4, "C"))))
	checkWithin(t, "A f x", con(0, "A", variable(2, "f"), variable(4, "x")))
	checkWithin(t, "A(f x)", con(0, "A", app(2, variable(2, "f"), variable(4, "x"))))
	checkWithin(t, "(A)1", app(0, con(1, "A"), number(3, 1)))
	checkWithin(t, "(A 1)2", app(0, con(1, "A", number(3, 1)), number(5, 2)))
	checkWithin(t, "A 1*B 2", op(0, "*", con(0, "A", number(2, 1)), con(4, "B", number(6, 2))))
}

// P3.1, where trees begin: signs around a tree are not counted, those around a part of it are.

func TestPlaces(t *testing.T) {
	checkTree(t, "((x))", variable(2, "x"))
	checkTree(t, " ( 1 - 2 ) ", op(3, "-", number(3, 1), number(7, 2)))
	checkTree(t, "(1 - 2) - 3", op(0, "-", op(1, "-", number(1, 1), number(5, 2)), number(10, 3)))
	checkTree(t, "((1-2)-3)", op(1, "-", op(2, "-", number(2, 1), number(4, 2)), number(7, 3)))
	checkTree(t, "(f) x", app(0, variable(1, "f"), variable(4, "x")))
	checkTree(t, "((f x) y)", app(1, app(2, variable(2, "f"), variable(4, "x")), variable(7, "y")))
	checkTree(t, "(1)*2+3", op(0, "+", op(0, "*", number(1, 1), number(4, 2)), number(6, 3)))
	checkTree(t, "(1)<(2)", op(0, "<", number(1, 1), number(5, 2)))
	checkTree(t, "A (1) (B)", con(0, "A", number(3, 1), con(7, "B")))
	checkTree(t, "\n\\x\n.\n(x)", lam(1, "x", variable(7, "x")))
	checkTree(t, "case(x)of{A\tb->(b)}", choice(0, variable(5, "x"), alt(10, "A", variable(12, "b"), variable(16, "b"))))
}

// P3.1, limits of the grammar.

// row is that many texts with a blank ahead of each one.
func row(n int, s string) string { return strings.Repeat(" "+s, n) }

func TestAtomsBehindACon(t *testing.T) {
	for n := range 9 {
		want := con(0, "A")
		for i := range n {
			want.L = append(want.L, number(2*i+2, 1))
		}
		checkWithin(t, "A"+row(n, "1"), want)
	}
	full := "A" + row(8, "1")
	for _, s := range []string{"1", "x", "B", "(", "(1)"} {
		checkForm(t, full+" "+s, 18)
		checkForm(t, "("+full+" "+s+")", 19)
		checkForm(t, "1 + "+full+" "+s, 22)
	}
	checkForm(t, full+" 1 1", 18)
	checkTree(t, full+"+"+full, op(0, "+", ones(0), ones(18)))
	checkTree(t, "("+full+") 1", app(0, ones(1), number(20, 1)))
	// Of what is applied there may be any number, a con among them too.
	want := variable(0, "f")
	for i := range 30 {
		want = app(0, want, con(2*i+2, "A"))
	}
	checkWithin(t, "f"+row(30, "A"), want)
}

// ones is a con with as many parts as one may have.
func ones(at int) api.Tree {
	t := con(at, "A")
	for i := range 8 {
		t.L = append(t.L, number(at+2*i+2, 1))
	}
	return t
}

func TestNamesOfAnAlternative(t *testing.T) {
	for n := range 9 {
		a := alt(10, "A", make([]api.Tree, n+1)...)
		for i := range n {
			a.L[i] = variable(12+2*i, "a")
		}
		a.L[n] = number(13+2*n, 1)
		checkWithin(t, "case x of{A"+row(n, "a")+"->1}", choice(0, variable(5, "x"), a))
	}
	checkForm(t, "case x of{A"+row(9, "a")+"->1}", 28)
	checkForm(t, "case x of{A"+row(10, "a")+"->1}", 28)
	checkForm(t, "case x of{A->1|B"+row(9, "a")+"->1}", 33)
	checkForm(t, "case x of{A B->1}", 12)
	checkForm(t, "case x of{A 1->1}", 12)
	checkForm(t, "case x of{A (a)->1}", 12)
}

func TestAlternativesOfACase(t *testing.T) {
	for n := 1; n <= 8; n++ {
		want := choice(0, variable(5, "x"))
		for i := range n {
			want.L = append(want.L, alt(10+5*i, "A", number(13+5*i, 1)))
		}
		checkWithin(t, "case x of{A->1"+strings.Repeat("|A->1", n-1)+"}", want)
	}
	nine := "case x of{A->1" + strings.Repeat("|A->1", 8) + "}"
	checkForm(t, nine, 49)
	checkForm(t, nine[:50], 49)
	checkForm(t, "case x of{A->1"+strings.Repeat("|A->1", 20)+"}", 49)
	checkForm(t, "f ("+nine+")", 52)
	checkForm(t, "case x of{}", 10)
	checkForm(t, "case x of{|A->1}", 10)
	checkForm(t, "case x of{A->1|}", 15)
	checkForm(t, "case x of{A->1||B->1}", 15)
	// Those of a case within are not counted.
	inner := "case x of{A->1" + strings.Repeat("|A->1", 7) + "}"
	s := "case x of{A->" + inner + strings.Repeat("|A->"+inner, 7) + "}"
	if got, _, e := parse.Parse(s, deepest); e != ok || len(got.L) != 9 || len(got.L[8].L[0].L) != 9 {
		t.Errorf("Parse(%q): %d, %v", s, e, got)
	}
	checkForm(t, s[:len(s)-1]+"|A->1}", len(s)-1)
}

// P3.1, texts that end too early.

func TestTextsThatEndTooEarly(t *testing.T) {
	whole := []string{
		`\x.x`, "let x=1 in x", "letrec x=1 in x", "case x of{A b->1|C->2}", "1+2", "1-2", "1*2", "1/2", "1<2", "1==2", "(x)", "((1))",
	}
	for _, s := range whole {
		if _, _, e := parse.Parse(s, deepest); e != ok {
			t.Errorf("Parse(%q): error %d", s, e)
		}
		l, _, _ := lex.All(s)
		for i := range l {
			cut := s[:l[i].At]
			// What is an expr by itself has not ended too early.
			if cut == "1" {
				continue
			}
			checkForm(t, cut, len(cut))
			checkForm(t, cut+" \n\t ", len(cut)+4)
			checkForm(t, "("+cut, len(cut)+1)
			checkForm(t, "1 + ("+cut, len(cut)+5)
			checkForm(t, `\x.`+cut, len(cut)+3)
		}
	}
	for _, s := range []string{"", " ", "\n\n\t", "(", "f (", "A (", "f (x", "A 1 2 (", "1 + ", "let", "letrec", "case", "\\", "case x", "case x of", "let x", "let x = 1"} {
		checkForm(t, s, len(s))
	}
	checkForm(t, strings.Repeat(" ", longest), longest)
	checkForm(t, strings.Repeat("(", longest), longest)
}

// P3.1, texts that go on too long.

func TestTextsThatGoOnTooLong(t *testing.T) {
	whole := []string{"x", "1", "A", "A 1", "f x", "(x)", `\x.x`, "let x=1 in x", "1+2", "1*2", "1<2", "case x of{A->1}", "(case x of{A->1})"}
	for _, s := range whole {
		for _, more := range []string{")", "}", "|", "->", "=", ".", "of", "in", "let", "letrec", "case", "\\"} {
			checkForm(t, s+" "+more, len(s)+1)
			checkForm(t, s+" "+more+" x", len(s)+1)
			checkForm(t, "  "+s+"  "+more+" "+more, len(s)+4)
		}
	}
	checkForm(t, "(x))", 3)
	checkForm(t, "case x of{A->1}}", 15)
	checkForm(t, "case x of{A->1} 1", 16)
	checkForm(t, "case x of{A->1} + 1", 16)
	checkForm(t, "case x of{A->1}(1)", 15)
	checkForm(t, "x in", 2)
}

// P3.1, the place of the first token with which no expr can go on.

func TestPlacesOfFaults(t *testing.T) {
	faults := []struct {
		s  string
		at int
	}{
		// Where an expr is to begin.
		{")", 0}, {"}", 0}, {"{", 0}, {"|", 0}, {".", 0}, {"=", 0}, {"->", 0}, {"+", 0}, {"-", 0}, {"*", 0}, {"/", 0}, {"<", 0}, {"==", 0}, {"in", 0}, {"of", 0},
		{" - 1", 1}, {"()", 1}, {"(  )", 3}, {"f ()", 3}, {"A ()", 3}, {"(+", 1},
		// Functions.
		{`\.x`, 1}, {`\X.x`, 1}, {`\1.x`, 1}, {`\(x).x`, 1}, {`\let.x`, 1}, {`\x x`, 3}, {`\x y.x`, 3}, {`\x->x`, 2}, {`\x..x`, 3}, {`\x.`, 3}, {`\x.)`, 3}, {`\\x.x`, 1},
		// Let and letrec.
		{"let X=1 in X", 4}, {"let 1=1 in 1", 4}, {"let (x)=1 in x", 4}, {"let let=1 in 1", 4}, {"let x 1 in x", 6}, {"let x==1 in x", 5}, {"let x y=1 in x", 6},
		{"let x= in x", 7}, {"let x=1 x", 9}, {"let x=1 of x", 8}, {"let x=1) in x", 7}, {"let x=1 in", 10}, {"let x=1 in in x", 11}, {"let =1 in x", 4},
		{"letrec X=1 in X", 7}, {"letrec x 1", 9}, {"letrec x=1|", 10}, {"let rec x=1 in x", 8},
		{"let x=1;", 7},
		// Cases.
		{"case of{A->1}", 5}, {"case x{A->1}", 6}, {"case x in{A->1}", 7}, {"case x of A->1", 10}, {"case x of(A->1)", 9}, {"case x of{a->1}", 10}, {"case x of{1->1}", 10},
		{"case x of{A 1}", 12}, {"case x of{A=1}", 11}, {"case x of{A->}", 13}, {"case x of{A->1,", 14}, {"case x of{A->1)", 14}, {"case x of{A->1 B->2}", 16}, {"case x of{A->1 in", 15},
		{"case x of{A->->1}", 13}, {"case x of{A->1->2}", 14}, {"case x of{x->1}", 10}, {"case x of{A->1|b->1}", 15},
		// Operators.
		{"1 +", 3}, {"1 + + 2", 4}, {"1 +- 2", 3}, {"1 * / 2", 4}, {"1 < 2 < 3", 6}, {"1 == 2 == 3", 7}, {"1 < 2 == 3", 6}, {"1 == 2 < 3", 7}, {"1 = 2", 2}, {"1 + 2 < 3 + 4 < 5", 14},
		{"1 < < 2", 4}, {"(1 < 2 < 3)", 7}, {"f (1 == 2 == 3", 10},
		// What stands without signs only where an expr begins.
		{`f \x.x`, 2}, {`A \x.x`, 2}, {`1 + \x.x`, 4}, {"f let x=1 in x", 2}, {"1 + let x=1 in x", 4}, {"1 * letrec x=1 in x", 4}, {"1 < case x of{A->1}", 4}, {"A case x of{A->1}", 2},
		{`x \`, 2},
		// Signs around nothing, or not shut.
		{"(x", 2}, {"((x)", 4}, {"(x}", 2}, {"(x|", 2}, {"(1 2 in", 5}, {"x(", 2}, {"x()", 2}, {"{x}", 0}, {"x{", 1}, {"f x.y", 3},
	}
	for _, f := range faults {
		if strings.ContainsAny(f.s, ";,") {
			checkFault(t, f.s, deepest, f.at, errChar)
			continue
		}
		checkForm(t, f.s, f.at)
		checkForm(t, "\t\n"+f.s, f.at+2)
		checkForm(t, "("+f.s, f.at+1)
		checkForm(t, "let x= "+f.s, f.at+7)
		checkForm(t, `\x.`+f.s, f.at+3)
		if f.at < len(f.s) {
			checkForm(t, f.s+" ) x", f.at)
			checkForm(t, f.s+" 1 in }", f.at)
		}
	}
}

// P3.1, the other errors, and which one is named first.

func TestDeepIsFrom1To200(t *testing.T) {
	for _, deep := range []int{0, -1, 201, 202, 1000, 5000, math.MinInt, math.MaxInt, math.MinInt32, math.MaxInt32, 1 << 32, -1 << 32, 1<<32 + 1} {
		for _, s := range []string{"x", "", ")", "x ?", strings.Repeat("x", 17), strings.Repeat(" ", longest+1), `\x.x`} {
			checkFault(t, s, deep, 0, errArg)
		}
	}
	for deep := 1; deep <= deepest; deep++ {
		checkRead(t, "x", deep, variable(0, "x"))
		checkRead(t, "((A))", deep, con(2, "A"))
	}
}

func TestLongTexts(t *testing.T) {
	for _, n := range []int{longest - 1, longest} {
		checkRead(t, strings.Repeat(" ", n-1)+"x", 1, variable(n-1, "x"))
		checkRead(t, "x"+strings.Repeat("\n", n-1), 1, variable(0, "x"))
		checkForm(t, strings.Repeat("x\n", n/2-1)+")", n/2*2-2)
	}
	for _, n := range []int{longest + 1, longest + 2, 2 * longest, 1 << 20} {
		checkFault(t, strings.Repeat(" ", n-1)+"x", deepest, 0, errBig)
		checkFault(t, "x"+strings.Repeat(" ", n-1), 1, 0, errBig)
		checkFault(t, strings.Repeat(" ", n), deepest, 0, errBig)
		checkFault(t, strings.Repeat("?", n), deepest, 0, errBig)
		checkFault(t, strings.Repeat("a", n), deepest, 0, errBig)
		checkFault(t, strings.Repeat(")", n), deepest, 0, errBig)
		checkFault(t, strings.Repeat("(", n), deepest, 0, errBig)
	}
	// Bytes are counted, not runes.
	checkFault(t, strings.Repeat("é", 2049), deepest, 0, errBig)
	checkFault(t, strings.Repeat("é", 2048), deepest, 0, errChar)
}

func TestLexErrors(t *testing.T) {
	texts := []string{"?", "x ?", "x >", "1x", "f 12ab", "01", "f 00", "x\x00", "é", "x é", "\r", "x,y", "[x]", "x;", "x_y", "\"", "'", "\xff", "1 + 1.5 %",
		strings.Repeat("a", 17), "f " + strings.Repeat("A", 17), strings.Repeat("1", 19), "f (" + strings.Repeat("9", 19)}
	for _, s := range texts {
		_, at, e := lex.All(s)
		if e != errChar && e != errLong {
			t.Fatalf("All(%q): %d", s, e)
		}
		checkFault(t, s, deepest, at, e)
		checkFault(t, s, 1, at, e)
		// Also behind what no expr goes on with, and behind what is too deep.
		checkFault(t, ") "+s, deepest, at+2, e)
		checkFault(t, "1 2 in "+s, deepest, at+7, e)
		checkFault(t, `\x.`+s, 1, at+3, e)
		checkFault(t, strings.Repeat(`\x.`, 300)+s, deepest, at+900, e)
	}
}

func TestForm(t *testing.T) {
	// Named ahead of what is too deep.
	checkFault(t, `\x.x )`, 1, 5, errForm)
	checkFault(t, "1 + 2 +", 1, 7, errForm)
	checkFault(t, strings.Repeat(`\x.`, 300), deepest, 900, errForm)
	checkFault(t, strings.Repeat("(", 2000)+"x", 1, 2001, errForm)
}

// P3.1, how deep trees are.

// deep are texts whose trees are deep as told.
func deep() map[string]int {
	return map[string]int{
		"x": 1, "A": 1, "7": 1, "(((x)))": 1,
		`\x.x`: 2, "f x": 2, "A x": 2, "A 1 2 3 4 5 6 7 8": 2, "1+2": 2, "1<2": 2, "let x=1 in 2": 2, "letrec x=1 in 2": 2, "(1)*(2)": 2,
		`\x.\y.x`: 3, "f x y": 3, "f (x y)": 3, "A (B x)": 3, "1-2-3": 3, "1-(2-3)": 3, "1+2*3": 3, "let x=f 1 in 2": 3, "let x=1 in f 1": 3, "case x of{A->1}": 3, "case x of{A a->1}": 3,
		"case f 1 of{A->1}": 3, "case 1 of{A->f 1}": 4, "case 1 of{A->1|B->f 1}": 4, "1+2*3<4": 4, "A (B (C D))": 4, "f 1 2 3": 4, "f 1 2 3 4 5 6 7 8 9": 10,
		"case case x of{A->1} of{A->1}": 4, "case x of{A->case x of{A->1}}": 5, "1-2-3-4-5-6-7-8": 8, "letrec f=\\x.f x in f 1": 4,
	}
}

func TestAsDeepAsDeepAndDeeper(t *testing.T) {
	for s, n := range deep() {
		want, _, e := parse.Parse(s, deepest)
		if e != ok || tree.Depth(want) != n {
			t.Errorf("Parse(%q): error %d, %d deep", s, e, tree.Depth(want))
		}
		for d := 1; d < n; d++ {
			checkFault(t, s, d, 0, errDeep)
			checkFault(t, "  "+s, d, 0, errDeep)
		}
		for d := n; d <= n+3; d++ {
			checkRead(t, s, d, want)
		}
		checkRead(t, s, deepest, want)
	}
}

func TestGreatDepths(t *testing.T) {
	ways := []struct {
		name string
		of   func(n int) string
	}{
		{"functions", func(n int) string { return strings.Repeat(`\x.`, n-1) + "x" }},
		{"applied", func(n int) string { return "f" + row(n-1, "x") }},
		{"sums", func(n int) string { return "1" + strings.Repeat("+1", n-1) }},
		{"sums within", func(n int) string { return strings.Repeat("1+(", n-1) + "1" + strings.Repeat(")", n-1) }},
		{"products", func(n int) string { return "1" + strings.Repeat("*1", n-1) }},
		{"cons", func(n int) string { return strings.Repeat("A(", n-1) + "A" + strings.Repeat(")", n-1) }},
		{"lets", func(n int) string { return strings.Repeat("let x=1 in ", n-1) + "x" }},
		{"lets ahead", func(n int) string { return strings.Repeat("let x=", n-1) + "x" + row(n-1, "in x") }},
	}
	for _, w := range ways {
		for _, n := range []int{2, 3, 50, 198, 199, 200} {
			got, at, e := parse.Parse(w.of(n), n)
			if e != ok || at != 0 || tree.Depth(got) != n || !tree.May(got) {
				t.Errorf("%s: %d deep: error %d at %d, %d deep", w.name, n, e, at, tree.Depth(got))
			}
			checkFault(t, w.of(n), n-1, 0, errDeep)
			checkFault(t, w.of(n+1), n, 0, errDeep)
		}
		checkFault(t, w.of(300), deepest, 0, errDeep)
	}
	for _, s := range []string{strings.Repeat(`\x.`, 1365) + "x", "f" + row(2047, "x"), "1" + strings.Repeat("+1", 2047), strings.Repeat("A(", 1365) + "A" + strings.Repeat(")", 1365)} {
		checkFault(t, s, deepest, 0, errDeep)
	}
}

func TestSignsAroundAreNotDeep(t *testing.T) {
	for _, n := range []int{1, 200, 201, 2047} {
		checkRead(t, strings.Repeat("(", n)+"x"+strings.Repeat(")", n), 1, variable(n, "x"))
	}
	checkForm(t, strings.Repeat("(", 2047)+"x"+strings.Repeat(")", 2048), 4095)
	checkForm(t, strings.Repeat("(", 2048)+"x"+strings.Repeat(")", 2047), 4096)
}

// P3.1, trees that are written here, with more signs around and more blanks than are needed, and read.

type writer struct {
	strings.Builder
	r *rand.Rand
}

func isLetterOrDigit(b byte) bool {
	return 'a' <= b && b <= 'z' || 'A' <= b && b <= 'Z' || '0' <= b && b <= '9'
}

// put writes a token, with a blank ahead of it where it would be one with what is there, and tells its place.
func (w *writer) put(s string) int {
	n := max(0, w.r.Intn(7)-4)
	if l := w.Len(); l > 0 && isLetterOrDigit(s[0]) && isLetterOrDigit(w.String()[l-1]) {
		n++
	}
	for range n {
		w.WriteByte(" \n\t"[w.r.Intn(3)])
	}
	at := w.Len()
	w.WriteString(s)
	return at
}

// level is the greatest one at which t may stand without signs around: 0 an expr, 1 a cmp, 2 a sum, 3 a prod, 4 an app, 5 an atom.
func level(t api.Tree) int {
	switch t.Kind {
	case 3:
		return 4
	case 6:
		if len(t.L) > 0 {
			return 4
		}
	case 2, 4, 5, 7:
		return 0
	case 10:
		return map[string]int{"<": 1, "==": 1, "+": 2, "-": 2, "*": 3, "/": 3}[t.Name]
	}
	return 5
}

// write is t with the places at which its trees begin, written where one of that level may stand.
func (w *writer) write(t api.Tree, least int) api.Tree {
	around := max(0, w.r.Intn(8)-6)
	if level(t) < least {
		around++
	}
	for range around {
		w.put("(")
	}
	t = w.plain(t)
	for range around {
		w.put(")")
	}
	return t
}

// plain is t written without signs around.
func (w *writer) plain(t api.Tree) api.Tree {
	l := t.L
	t.L = make([]api.Tree, len(l))
	part := func(i, least int) { t.L[i] = w.write(l[i], least) }
	switch t.Kind {
	case 1:
		t.At = w.put(t.Name)
	case 2:
		t.At = w.put("\\")
		w.put(t.Name)
		w.put(".")
		part(0, 0)
	case 3:
		t.At = w.pair("", 4, l[0].Kind == 6, part)
	case 4, 5:
		t.At = w.put([]string{"let", "letrec"}[t.Kind-4])
		w.put(t.Name)
		w.put("=")
		part(0, 0)
		w.put("in")
		part(1, 0)
	case 6:
		t.At = w.put(t.Name)
		for i := range l {
			part(i, 5)
		}
	case 7:
		t.At = w.put("case")
		part(0, 0)
		w.put("of")
		for i, a := range l[1:] {
			w.put(string("{|"[min(i, 1)]))
			t.L[i+1] = w.alt(a)
		}
		w.put("}")
	case 9:
		t.At = w.put(strconv.Itoa(t.N))
	case 10:
		t.At = w.pair(t.Name, level(t), false, part)
	}
	return t
}

func (w *writer) alt(t api.Tree) api.Tree {
	l := t.L
	t.L = make([]api.Tree, len(l))
	t.At = w.put(t.Name)
	for i := range t.N {
		t.L[i] = l[i]
		t.L[i].At = w.put(l[i].Name)
	}
	w.put("->")
	t.L[t.N] = w.write(l[t.N], 0)
	return t
}

// pair writes two parts, and tells where they begin: at the first byte that is no blank.
func (w *writer) pair(sign string, level int, within bool, part func(i, least int)) int {
	from := w.Len()
	left := level
	if level == 1 {
		left = 2
	}
	if within {
		left = 6
	}
	part(0, left)
	if sign != "" {
		w.put(sign)
	}
	part(1, level+1)
	s := w.String()[from:]
	return from + len(s) - len(strings.TrimLeft(s, " \n\t"))
}

var names = []string{"x", "y", "f", "lets", "inn", "abcdefghijklmnop", "x1"}
var cons = []string{"A", "Nil", "Cons", "Let", "ABCDEFGHIJKLMNOP"}

func pick(r *rand.Rand, l []string) string { return l[r.Intn(len(l))] }

// likely is a tree that may be, of some n parts.
func likely(r *rand.Rand, n int) api.Tree {
	if n <= 1 {
		return []api.Tree{variable(0, pick(r, names)), con(0, pick(r, cons)), number(0, r.Intn(1000))}[r.Intn(3)]
	}
	part := func(n int) api.Tree { return likely(r, n) }
	switch n--; r.Intn(8) {
	case 0:
		return lam(0, pick(r, names), part(n))
	case 1, 2:
		return app(0, part(n/2), part(n-n/2))
	case 3:
		return []func(int, string, api.Tree, api.Tree) api.Tree{let, rec}[r.Intn(2)](0, pick(r, names), part(n/3), part(n-n/3))
	case 4:
		c := con(0, pick(r, cons))
		for k := 1 + r.Intn(8); len(c.L) < k; {
			c.L = append(c.L, part(n/k))
		}
		return c
	case 5:
		c := choice(0, part(n/3))
		for k := 1 + r.Intn(8); len(c.L) <= k; {
			a := api.Tree{Kind: 8, Name: pick(r, cons), N: max(0, r.Intn(18)-9)}
			for range a.N {
				a.L = append(a.L, variable(0, pick(r, names)))
			}
			a.L = append(a.L, part(n*2/3/k))
			c.L = append(c.L, a)
		}
		return c
	}
	return op(0, pick(r, []string{"+", "-", "*", "/", "<", "=="}), part(n/2), part(n-n/2))
}

func TestWrittenTreesAreRead(t *testing.T) {
	r := rand.New(rand.NewSource(3))
	read := 0
	for i := range 6000 {
		w := writer{r: r}
		want := w.write(likely(r, 1+i%60), 0)
		s, d := w.String(), tree.Depth(want)
		if len(s) > longest || d > deepest {
			continue
		}
		read++
		checkRead(t, s, d, want)
		checkTree(t, s, want)
		if d > 1 {
			checkFault(t, s, d-1, 0, errDeep)
		}
	}
	if read < 5000 {
		t.Error("few are read:", read)
	}
}

// P3.1, held against a reading that is made otherwise: all the ways in which the grammar can go on are kept, token by token.

// grammar is the chapter's; what may stand any number of times, or at most 8 times, has forms of its own.
func grammar() map[string][]string {
	g := map[string][]string{
		"expr":  {"\\ name . expr", "let name = expr in expr", "letrec name = expr in expr", "case expr of { alts8 }", "cmp"},
		"alt":   {"con names8 -> expr"},
		"cmp":   {"sum", "sum < sum", "sum == sum"},
		"sum":   {"prod", "sum + prod", "sum - prod"},
		"prod":  {"app", "prod * app", "prod / app"},
		"app":   {"con atoms8", "other", "app2"},
		"app2":  {"other atom", "app2 atom"},
		"other": {"name", "int", "( expr )"},
		"atom":  {"name", "con", "int", "( expr )"},
		"alts1": {"alt"}, "names0": {""}, "atoms0": {""},
	}
	for n := 1; n <= 8; n++ {
		less := strconv.Itoa(n - 1)
		g["names"+strconv.Itoa(n)] = []string{"", "name names" + less}
		g["atoms"+strconv.Itoa(n)] = []string{"", "atom atoms" + less}
		if n > 1 {
			g["alts"+strconv.Itoa(n)] = []string{"alt", "alt | alts" + less}
		}
	}
	return g
}

// item is a form that was gone through as far as done, from that token on.
type item struct {
	of, form   string
	done, from int
}

// next is what the form goes on with; nothing, if it was gone through.
func (i item) next(forms map[string][]string) string {
	if l := forms[i.form]; i.done < len(l) {
		return l[i.done]
	}
	return ""
}

type chart struct {
	g     map[string][]string // forms
	words map[string][]string // their words
	rows  [][]item
}

func newChart() chart {
	c := chart{g: grammar(), words: map[string][]string{}}
	for _, l := range c.g {
		for _, f := range l {
			c.words[f] = strings.Fields(f)
		}
	}
	return c
}

func (c *chart) add(row int, i item) {
	if !slices.Contains(c.rows[row], i) {
		c.rows[row] = append(c.rows[row], i)
	}
}

// fill adds what follows from a row's items.
func (c *chart) fill(row int) {
	for at := 0; at < len(c.rows[row]); at++ {
		i := c.rows[row][at]
		next := i.next(c.words)
		if next == "" {
			for _, j := range c.rows[i.from] {
				if j.next(c.words) == i.of {
					c.add(row, item{j.of, j.form, j.done + 1, j.from})
				}
			}
			continue
		}
		for _, f := range c.g[next] {
			c.add(row, item{next, f, 0, row})
			if f == "" {
				c.add(row, item{i.of, i.form, i.done + 1, i.from})
			}
		}
	}
}

// fault is the number of the first token with which no expr can go on; that of all, if it is the end; and if there is one.
func (c *chart) fault(l []api.Token) (int, bool) {
	c.rows = append(c.rows[:0], []item{{"", "expr", 0, 0}})
	c.words["expr"] = []string{"expr"}
	c.fill(0)
	for n, t := range l {
		word := t.Text
		if t.Kind <= 3 {
			word = []string{"name", "con", "int"}[t.Kind-1]
		}
		var row []item
		for _, i := range c.rows[n] {
			if i.next(c.words) == word {
				row = append(row, item{i.of, i.form, i.done + 1, i.from})
			}
		}
		if row == nil {
			return n, true
		}
		c.rows = append(c.rows, row)
		c.fill(n + 1)
	}
	return len(l), !slices.Contains(c.rows[len(l)], item{"", "expr", 1, 0})
}

// checkChart asks for a text of tokens, whether it is an expr or not, and is told whether it is one.
func checkChart(t *testing.T, c *chart, s string) bool {
	t.Helper()
	l, at, e := lex.All(s)
	if e != ok {
		checkFault(t, s, deepest, at, e)
		return false
	}
	n, bad := c.fault(l)
	if bad {
		place := len(s)
		if n < len(l) {
			place = l[n].At
		}
		checkForm(t, s, place)
		return false
	}
	if got, at, e := parse.Parse(s, deepest); e != ok || at != 0 || !tree.May(got) {
		t.Errorf("Parse(%q): error %d at %d, %v", s, e, at, got)
	}
	return true
}

func TestAllShortTexts(t *testing.T) {
	c := newChart()
	words := []string{"x", "A", "1", "\\", ".", "(", ")", "let", "=", "in", "+", "<", "*"}
	read := 0
	var all func(s string, n int)
	all = func(s string, n int) {
		if checkChart(t, &c, s) {
			read++
		}
		if n > 0 {
			for _, w := range words {
				all(s+" "+w, n-1)
			}
		}
	}
	all("", 4)
	if read < 300 {
		t.Error("few are read:", read)
	}
}

func TestHarmedTexts(t *testing.T) {
	c := newChart()
	r := rand.New(rand.NewSource(33))
	words := []string{"x", "y", "A", "B", "1", "\\", ".", "(", ")", "let", "letrec", "=", "in", "case", "of", "{", "|", "}", "->", "+", "-", "*", "/", "<", "=="}
	read := 0
	for i := range 3000 {
		w := writer{r: r}
		w.write(likely(r, 1+i%14), 0)
		l, _, _ := lex.All(w.String())
		for range 1 + r.Intn(2) {
			at := r.Intn(len(l))
			some := []api.Token{{Kind: 9, Text: pick(r, words)}}
			switch r.Intn(4) {
			case 0:
				l = slices.Delete(l, at, at+1)
			case 1:
				l = slices.Replace(l, at, at+1, some...)
			case 2:
				l = slices.Insert(l, at, some...)
			case 3:
				some = slices.Repeat(some, 8+r.Intn(3))
				l = slices.Insert(l, at, some...)
			}
			if len(l) == 0 {
				break
			}
		}
		if checkChart(t, &c, lex.Text(l)) {
			read++
		}
	}
	if read < 300 || read > 2500 {
		t.Error("not some are read, and some are not:", read)
	}
}

// P3.2.

func TestWhatWasReadMayBe(t *testing.T) {
	r := rand.New(rand.NewSource(32))
	words := []string{"x", "f", "A", "B", "1", "0", "999999999999999999", "(", ")", "(x)", "\\x.", "let x=1 in", "case x of{A->1}", "case x of{A a b->1|B->", "}", "+", "*", "<", "-", "/", "=="}
	read := 0
	for range 30000 {
		s := ""
		for range 1 + r.Intn(8) {
			s += " " + pick(r, words)
		}
		got, _, e := parse.Parse(s, deepest)
		if e != ok {
			continue
		}
		read++
		if !tree.May(got) {
			t.Errorf("Parse(%q): %v may not be", s, got)
		}
	}
	if read < 1000 {
		t.Error("few are read:", read)
	}
}

func TestWithAGreaterDeepItIsTheSame(t *testing.T) {
	for s := range deep() {
		want, _, _ := parse.Parse(s, deepest)
		for d := tree.Depth(want); d <= deepest; d++ {
			got, at, e := parse.Parse(s, d)
			if e != ok || at != 0 || !tree.Same(got, want) || !reflect.DeepEqual(noEmpties(got), noEmpties(want)) {
				t.Errorf("Parse(%q, %d): error %d at %d, %v, not %v", s, d, e, at, got, want)
			}
		}
	}
}

// R1 to R5.

func TestNoTextPanics(t *testing.T) {
	r := rand.New(rand.NewSource(1))
	alphabet := "xyAB01 \\.()={}|+-*/<>\n\t?\x00\xff"
	for range 30000 {
		b := make([]byte, r.Intn(20))
		for i := range b {
			b[i] = alphabet[r.Intn(len(alphabet))]
		}
		s := string(b)
		deep := r.Intn(204) - 1
		got, at, e := parse.Parse(s, deep)
		if e != ok && (got.Kind != 0 || at < 0 || at > len(s)) || e == ok && (at != 0 || tree.Depth(got) > deep || !tree.May(got)) {
			t.Errorf("Parse(%q, %d): error %d at %d, %v", s, deep, e, at, got)
		}
	}
}

func TestNothingIsKept(t *testing.T) {
	texts := []string{"x", `\x.x`, "f x y", "A 1 (B 2) C", "case x of{A a->1|B->2}", "let x=1 in x+1", ")", "f (", "x ?", `\x.\y.\z.x`, ""}
	type answer struct {
		t  api.Tree
		at int
		e  api.Errno
	}
	ask := func(s string) answer {
		t, at, e := parse.Parse(s, 3)
		return answer{noEmpties(t), at, e}
	}
	first := map[string]answer{}
	for _, s := range texts {
		first[s] = ask(s)
	}
	for _, s := range texts {
		for _, between := range texts {
			ask(between)
			if got := ask(s); !reflect.DeepEqual(got, first[s]) {
				t.Errorf("%q behind %q: %v, not %v", s, between, got, first[s])
			}
		}
	}
	var all sync.WaitGroup
	for _, s := range texts {
		all.Go(func() {
			for range 100 {
				if got := ask(s); !reflect.DeepEqual(got, first[s]) {
					t.Errorf("%q beside others: %v, not %v", s, got, first[s])
				}
			}
		})
	}
	all.Wait()
}

// spoil writes over all of t's lists, and behind their ends.
func spoil(t api.Tree) {
	l := t.L[:cap(t.L)]
	for _, p := range t.L {
		spoil(p)
	}
	for i := range l {
		l[i] = api.Tree{Kind: -1, Name: "spoilt", N: -1, At: -1}
	}
}

func TestAnswersShareNothing(t *testing.T) {
	for s := range deep() {
		a, _, _ := parse.Parse(s, deepest)
		b, _, _ := parse.Parse(s, deepest)
		want := noEmpties(b)
		spoil(a)
		if !reflect.DeepEqual(noEmpties(b), want) {
			t.Errorf("%q: written over by what was done to another answer: %v", s, b)
		}
		checkTree(t, s, want)
		// Nor two lists of one answer.
		for i := range b.L {
			c, _, _ := parse.Parse(s, deepest)
			rest := slices.Clone(noEmpties(c).L)
			spoil(c.L[i])
			c.L[i], rest[i] = api.Tree{}, api.Tree{}
			if !reflect.DeepEqual(noEmpties(c).L, rest) {
				t.Errorf("%q: part %d shares with another one: %v", s, i, c)
			}
		}
	}
}

// allNames are those of t and its parts.
func allNames(t api.Tree) []string {
	l := []string{t.Name}
	for _, p := range t.L {
		l = append(l, allNames(p)...)
	}
	return l
}

func TestNamesShareNothingWithTheText(t *testing.T) {
	for _, s := range []string{"x", "Nil", "f (A x) + (let y = 1 in case y of { B z -> z })", `\x.x`, "1 < 2", "letrec f = f in f - f"} {
		s = strings.Clone(s)
		from := uintptr(unsafe.Pointer(unsafe.StringData(s)))
		got, _, e := parse.Parse(s, deepest)
		if e != ok {
			t.Errorf("Parse(%q): error %d", s, e)
		}
		for _, n := range allNames(got) {
			at := uintptr(unsafe.Pointer(unsafe.StringData(n)))
			if n != "" && from <= at && at < from+uintptr(len(s)) {
				t.Errorf("Parse(%q): the name %q is the text's memory", s, n)
			}
		}
	}
}
