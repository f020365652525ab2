package value_test

import (
	"math"
	"math/rand"
	"reflect"
	"regexp"
	"slices"
	"strconv"
	"strings"
	"sync"
	"testing"
	"unsafe"

	"gossamer/api"
	"gossamer/core"
	"gossamer/head"
	"gossamer/parse"
	"gossamer/sugar"
	"gossamer/value"
)

// Kinds, errors and limits are written as numbers: the chapters tell them so.

const (
	errArg  = 1
	errFuel = 90
	errWide = 91

	mostTerm = 5000
	mostFuel = 100000

	levels = 1 << 16
	fewest = math.MinInt
	most   = math.MaxInt
)

func variable(n int) api.Term              { return api.Term{Kind: 1, N: n} }
func lam(b api.Term) api.Term              { return api.Term{Kind: 2, L: []api.Term{b}} }
func app(f, a api.Term) api.Term           { return api.Term{Kind: 3, L: []api.Term{f, a}} }
func con(s string, l ...api.Term) api.Term { return api.Term{Kind: 4, Name: s, L: l} }
func number(n int) api.Term                { return api.Term{Kind: 7, N: n} }
func op(s string, a, b api.Term) api.Term  { return api.Term{Kind: 8, Name: s, L: []api.Term{a, b}} }
func failed() api.Term                     { return api.Term{Kind: 9} }

func choice(x api.Term, alts ...api.Term) api.Term {
	return api.Term{Kind: 5, L: append([]api.Term{x}, alts...)}
}

func alt(s string, n int, b api.Term) api.Term {
	return api.Term{Kind: 6, Name: s, N: n, L: []api.Term{b}}
}

func whole(n int) api.Shape                   { return api.Shape{Kind: 1, N: n} }
func cell(s string, l ...api.Shape) api.Shape { return api.Shape{Kind: 2, Name: s, L: l} }
func fun() api.Shape                          { return api.Shape{Kind: 3} }
func bad() api.Shape                          { return api.Shape{Kind: 4} }
func lazy() api.Shape                         { return api.Shape{Kind: 5} }

// program is the term of a program's text.
func program(t *testing.T, s string) api.Term {
	t.Helper()
	tree, at, e := parse.Parse(s, 200)
	if e != api.OK {
		t.Fatalf("%q: Parse: error %d at %d", s, e, at)
	}
	x, at, e := sugar.Core(tree)
	if e != api.OK {
		t.Fatalf("%q: Core: error %d at %d", s, e, at)
	}
	return x
}

// reader reads a text of a shape that may be.
type reader struct{ rest string }

// word is what stands ahead of the next blank or sign, and is read.
func (r *reader) word() string {
	n := strings.IndexAny(r.rest, " ()")
	if n < 0 {
		n = len(r.rest)
	}
	s := r.rest[:n]
	r.rest = r.rest[n:]
	return s
}

func (r *reader) shape() api.Shape {
	if !strings.HasPrefix(r.rest, "(") {
		return leaf(r.word())
	}
	r.rest = r.rest[1:]
	s := cell(r.word())
	for strings.HasPrefix(r.rest, " ") {
		r.rest = r.rest[1:]
		s.L = append(s.L, r.shape())
	}
	r.rest = strings.TrimPrefix(r.rest, ")")
	return s
}

func leaf(s string) api.Shape {
	switch s {
	case "fun":
		return fun()
	case "fail":
		return bad()
	case "?":
		return lazy()
	}
	if n, err := strconv.Atoi(s); err == nil {
		return whole(n)
	}
	return cell(s)
}

// shape is the one whose text is s; a slip in s is told.
func shape(t *testing.T, s string) api.Shape {
	t.Helper()
	r := reader{s}
	x := r.shape()
	if r.rest != "" || readText(x) != s {
		t.Fatalf("%q is no shape's text", s)
	}
	return x
}

func pick[T any](r *rand.Rand, l ...T) T { return l[r.Intn(len(l))] }

// cut is s as a failure tells it: no more than its first bytes, no others than ASCII's.
func cut(s string) string {
	s = strconv.QuoteToASCII(s)
	if len(s) > 400 {
		s = s[:400] + ".."
	}
	return s
}

func toldTerm(x api.Term) string { return cut(core.Text(x)) }

// toldShape is a text of all that s has.
func toldShape(s api.Shape) string {
	var b strings.Builder
	var write func(s api.Shape)
	write = func(s api.Shape) {
		b.WriteString("{" + strconv.Itoa(s.Kind) + " " + strconv.Itoa(s.N) + " " + s.Name)
		for _, p := range s.L {
			if b.Len() < 1000 {
				write(p)
			}
		}
		b.WriteString("}")
	}
	write(s)
	return cut(b.String())
}

// copied is s, of which no list and no name is s's.
func copied(s api.Shape) api.Shape {
	l := make([]api.Shape, 0, len(s.L))
	for _, p := range s.L {
		l = append(l, copied(p))
	}
	s.Name = strings.Clone(s.Name)
	s.L = l
	return s
}

func copiedTerm(x api.Term) api.Term {
	l := make([]api.Term, 0, len(x.L))
	for _, p := range x.L {
		l = append(l, copiedTerm(p))
	}
	x.Name = strings.Clone(x.Name)
	x.L = l
	return x
}

// equal tells if nothing is other in a and in b, as the language tells it.
func equal(a, b api.Shape) bool { return reflect.DeepEqual(copied(a), copied(b)) }

// Checks.

func checkEval(t *testing.T, x api.Term, deep bool, fuel int, want api.Shape, steps int, e api.Errno) {
	t.Helper()
	got, did, err := value.Eval(x, deep, fuel)
	if did != steps || err != e || !equal(got, want) {
		t.Errorf("Eval(%s, %t, %d): %s, %d, %d; want %s, %d, %d", toldTerm(x), deep, fuel, toldShape(got), did, err, toldShape(want), steps, e)
	}
}

func checkError(t *testing.T, x api.Term, deep bool, fuel, steps int, e api.Errno) {
	t.Helper()
	checkEval(t, x, deep, fuel, api.Shape{}, steps, e)
}

// checkSteps asks for x with just as much fuel as it needs, with more, and with less.
func checkSteps(t *testing.T, x api.Term, deep bool, steps int, want api.Shape) {
	t.Helper()
	for _, fuel := range []int{steps, min(steps+1, mostFuel), mostFuel} {
		checkEval(t, x, deep, fuel, want, steps, 0)
	}
	for _, fuel := range []int{0, 1, 2, steps / 2, steps - 2, steps - 1} {
		if fuel >= 0 && fuel < steps {
			checkError(t, x, deep, fuel, fuel, errFuel)
		}
	}
}

func checkMay(t *testing.T, s api.Shape, want bool) {
	t.Helper()
	if got := value.May(s); got != want {
		t.Errorf("May(%s): %t", toldShape(s), got)
	}
}

func checkSame(t *testing.T, a, b api.Shape, want bool) {
	t.Helper()
	if got := value.Same(a, b); got != want {
		t.Errorf("Same(%s, %s): %t", toldShape(a), toldShape(b), got)
	}
	if got := value.Same(b, a); got != want {
		t.Errorf("Same(%s, %s): %t", toldShape(b), toldShape(a), got)
	}
}

func checkText(t *testing.T, s api.Shape, want string) {
	t.Helper()
	if got := value.Text(s); got != want {
		t.Errorf("Text(%s): %s; want %s", toldShape(s), cut(got), cut(want))
	}
}

// P10.1.

func TestEvalOfTheDocument(t *testing.T) {
	x := con("Cons", number(1), app(lam(variable(0)), con("Nil")))
	checkSteps(t, x, true, 1, cell("Cons", whole(1), cell("Nil")))
	checkSteps(t, x, false, 0, cell("Cons", lazy(), lazy()))
}

func TestValues(t *testing.T) {
	for _, deep := range []bool{false, true} {
		for _, n := range []int{0, 1, -1, 7, 123456789, fewest, most} {
			checkSteps(t, number(n), deep, 0, whole(n))
		}
		checkSteps(t, failed(), deep, 0, bad())
		for _, s := range []string{"Nil", "A", "True", "ABCDEFGHIJKLMNOP"} {
			checkSteps(t, con(s), deep, 0, cell(s))
		}
		for _, b := range []api.Term{variable(0), number(1), failed(), con("A"), lam(variable(1)), op("+", number(1), number(2)), app(variable(0), variable(0)), con("A", variable(0), variable(0))} {
			checkSteps(t, lam(b), deep, 0, fun())
		}
	}
}

// evaluations are of programs: steps and text, of a shallow look and of a deep one.
func evaluations() []evaluation {
	return []evaluation{
		{"1 + 1", 1, "2", 1, "2"},
		{"0 - 7", 1, "-7", 1, "-7"},
		{"2 * 3 - 4", 2, "2", 2, "2"},
		{"1 / 0", 1, "fail", 1, "fail"},
		{"1 2", 1, "fail", 1, "fail"},
		{"1 + Nil", 1, "fail", 1, "fail"},
		{"case 1 of { A -> 1 }", 1, "fail", 1, "fail"},
		{"case A of { B -> 1 }", 1, "fail", 1, "fail"},
		{"1 < 2", 1, "True", 1, "True"},
		{"1 == 2", 1, "False", 1, "False"},
		{`\x. 1 / 0`, 0, "fun", 0, "fun"},
		{`(\x. \y. x) 1`, 1, "fun", 1, "fun"},
		{`(\x. x x) (\y. y)`, 2, "fun", 2, "fun"},
		{`(\x. x) 5`, 1, "5", 1, "5"},
		{"let x = 1 / 0 in 5", 1, "5", 1, "5"},
		{"case P 4 5 of { P x y -> y }", 1, "5", 1, "5"},
		{"P 1 2", 0, "(P ? ?)", 0, "(P 1 2)"},
		{"P 2 1", 0, "(P ? ?)", 0, "(P 2 1)"},
		{"S 1", 0, "(S ?)", 0, "(S 1)"},
		{"P Nil (S Nil)", 0, "(P ? ?)", 0, "(P Nil (S Nil))"},
		{"P (1 + 1) (1 / 0)", 0, "(P ? ?)", 2, "(P 2 fail)"},
		{`P (\x. 1 2) (1 2)`, 0, "(P ? ?)", 1, "(P fun fail)"},
		{"P (1 < 2) (2 == 1)", 0, "(P ? ?)", 2, "(P True False)"},
		{"P (0 - 1) (0 - 2)", 0, "(P ? ?)", 2, "(P -1 -2)"},
		{"T (S (1 + 2)) (P Nil (S (2 * 3))) (S (S (4 - 5 - 6)))", 0, "(T ? ? ?)", 4, "(T (S 3) (P Nil (S 6)) (S (S -7)))"},
		{"E 1 2 (1 + 2) 4 (2 + 3) 6 7 (9 - 1)", 0, "(E ? ? ? ? ? ? ? ?)", 3, "(E 1 2 3 4 5 6 7 8)"},
		{`(\x. P x (x + 1)) (2 * 3)`, 1, "(P ? ?)", 4, "(P 6 7)"},
		{"let x = 2 * 3 in Cons x x", 1, "(Cons ? ?)", 3, "(Cons 6 6)"},
		{"case P 1 2 of { P x y -> Q y (x + y) }", 1, "(Q ? ?)", 2, "(Q 2 3)"},
		{"case 1 < 2 of { True -> S (1 + 2) | False -> S 0 }", 2, "(S ?)", 3, "(S 3)"},
		{`S ((\x. S (x + x)) (1 + 2))`, 0, "(S ?)", 4, "(S (S 6))"},
		{`P ((\x. x) (S 1)) ((\x. x) (\y. y))`, 0, "(P ? ?)", 2, "(P (S 1) fun)"},
		{"(S 1) 2", 1, "fail", 1, "fail"},
		{"S ((S 1) 2)", 0, "(S ?)", 1, "(S fail)"},
		{"(1 / 0) + P 1 2", 2, "fail", 2, "fail"},
	}
}

type evaluation struct {
	program      string
	steps        int
	shallow      string
	stepsOfWhole int
	deep         string
}

func TestPrograms(t *testing.T) {
	for _, c := range evaluations() {
		x := program(t, c.program)
		checkSteps(t, x, false, c.steps, shape(t, c.shallow))
		checkSteps(t, x, true, c.stepsOfWhole, shape(t, c.deep))
	}
}

func TestGreaterPrograms(t *testing.T) {
	for _, c := range []struct{ program, shallow, deep string }{
		{"letrec f = \\n. case n == 0 of { True -> 1 | False -> n * f (n - 1) } in f 5", "120", "120"},
		{"letrec up = \\n. \\m. case n == 0 of { True -> Nil | False -> Cons m (up (n - 1) (m + 1)) } in up 4 7", "(Cons ? ?)", "(Cons 7 (Cons 8 (Cons 9 (Cons 10 Nil))))"},
		{"letrec map = \\f. \\l. case l of { Nil -> Nil | Cons x y -> Cons (f x) (map f y) } in map (\\x. 6 / x) (Cons 2 (Cons 0 (Cons 7 Nil)))", "(Cons ? ?)", "(Cons 3 (Cons fail (Cons 0 Nil)))"},
		{"letrec full = \\n. case n == 0 of { True -> Leaf | False -> Fork (full (n - 1)) n (full (n - 1)) } in full 2", "(Fork ? ? ?)", "(Fork (Fork Leaf 1 Leaf) 2 (Fork Leaf 1 Leaf))"},
		{"letrec l = Cons 1 l in letrec take = \\n. \\l. case n == 0 of { True -> Nil | False -> case l of { Cons x y -> Cons x (take (n - 1) y) } } in take 3 l", "(Cons ? ?)", "(Cons 1 (Cons 1 (Cons 1 Nil)))"},
	} {
		x := program(t, c.program)
		for deep, want := range map[bool]string{false: c.shallow, true: c.deep} {
			got, steps, e := value.Eval(x, deep, mostFuel)
			if !equal(got, shape(t, want)) || e != 0 {
				t.Errorf("%s, %t: %s, %d, %d; want %s", c.program, deep, toldShape(got), steps, e, want)
			}
			checkSteps(t, x, deep, steps, got)
			checkEvalRead(t, x, deep, steps)
		}
	}
}

// sums is x and 1, and 1, so many times: as many steps more.
func sums(n int, x api.Term) api.Term {
	for range n {
		x = op("+", x, number(1))
	}
	return x
}

// round goes on and on.
func round() api.Term {
	f := lam(app(variable(0), variable(0)))
	return app(f, f)
}

// of is a closed value of that size.
func of(size int) api.Term {
	x := number(1)
	for range size - 1 {
		x = lam(x)
	}
	return x
}

// doubled is, behind one step, a value of twice that size, and 1.
func doubled(size int) api.Term {
	return app(lam(con("P", variable(0), variable(0))), of(size))
}

// TestWhichPartIsFirst has parts that end with errors, or take steps, in all orders.
func TestWhichPartIsFirst(t *testing.T) {
	wide := doubled(2500)
	add := func(n int) api.Term { return sums(n, number(0)) }
	for _, c := range []struct {
		x     api.Term
		fuel  int
		steps int
		e     api.Errno
	}{
		{con("P", wide, round()), 50, 1, errWide},
		{con("P", round(), wide), 50, 50, errFuel},
		{con("T", add(2), wide, add(3)), 50, 3, errWide},
		{con("T", add(2), add(3), wide), 50, 6, errWide},
		{con("T", wide, add(2), add(3)), 50, 1, errWide},
		{con("T", wide, add(2), round()), 50, 1, errWide},
		{con("P", add(3), round()), 50, 50, errFuel},
		{con("P", round(), add(3)), 50, 50, errFuel},
		// What is within the first one is ahead of the next one.
		{con("P", con("P", add(1), wide), round()), 50, 2, errWide},
		{con("P", con("P", add(1), round()), wide), 50, 50, errFuel},
		{con("P", con("P", add(1), con("P", con("S", wide), add(4))), con("P", add(8), round())), 50, 2, errWide},
		{con("P", con("S", con("S", add(2))), con("P", add(3), wide)), 50, 6, errWide},
		{con("P", app(lam(con("P", variable(0), variable(0))), add(2)), con("S", wide)), 50, 6, errWide},
		{con("P", con("S", con("S", round())), wide), 7, 7, errFuel},
		// The fuel ends ahead of what would be too wide, or with it.
		{con("P", add(3), wide), 3, 3, errFuel},
		{con("P", add(3), wide), 4, 4, errWide},
		{con("P", add(3), wide), 0, 0, errFuel},
	} {
		checkError(t, c.x, true, c.fuel, c.steps, c.e)
		checkEval(t, c.x, false, c.fuel, cell(c.x.Name, slices.Repeat([]api.Shape{lazy()}, len(c.x.L))...), 0, 0)
	}
}

func TestFuelOfParts(t *testing.T) {
	add := func(n int) api.Term { return sums(n, number(0)) }
	checkSteps(t, con("P", add(2), add(3)), true, 5, cell("P", whole(2), whole(3)))
	checkSteps(t, con("P", add(7), number(3)), true, 7, cell("P", whole(7), whole(3)))
	checkSteps(t, con("S", con("S", con("P", add(4), con("S", add(9))))), true, 13, cell("S", cell("S", cell("P", whole(4), cell("S", whole(9))))))
	// What it takes to come to the constructor, and what its parts take.
	x := app(lam(con("T", variable(0), op("*", variable(0), variable(0)), variable(0))), add(5))
	checkSteps(t, x, true, 22, cell("T", whole(5), whole(25), whole(5)))
	checkSteps(t, x, false, 1, cell("T", lazy(), lazy(), lazy()))
	// Without fuel what is done is told.
	checkEval(t, con("P", number(1), con("S", lam(round()))), true, 0, cell("P", whole(1), cell("S", fun())), 0, 0)
	checkError(t, con("P", number(1), con("S", round())), true, 0, 0, errFuel)
}

func TestWhatDoesNotEnd(t *testing.T) {
	for _, s := range []string{`(\x. x x) (\x. x x)`, "letrec x = x in x", `1 + (\x. x x) (\x. x x)`} {
		x := program(t, s)
		for _, fuel := range []int{0, 1, 2, 50, 999, mostFuel} {
			checkError(t, x, false, fuel, fuel, errFuel)
			checkError(t, x, true, fuel, fuel, errFuel)
			checkError(t, con("P", number(1), x), true, fuel, fuel, errFuel)
			checkEval(t, con("P", number(1), x), false, fuel, cell("P", lazy(), lazy()), 0, 0)
		}
	}
}

// TestWhatIsEndless has constructors that hold ever more of them.
func TestWhatIsEndless(t *testing.T) {
	self := app(variable(0), variable(0))
	for _, c := range []struct {
		x    api.Term
		want api.Shape
	}{
		{program(t, "letrec l = Cons 1 l in l"), cell("Cons", lazy(), lazy())},
		{program(t, "letrec l = Snoc l 1 in l"), cell("Snoc", lazy(), lazy())},
		{program(t, "letrec l = Fork l (1 + 1) l in l"), cell("Fork", lazy(), lazy(), lazy())},
		{program(t, `letrec from = \n. Cons n (from (n + 1)) in from 0`), cell("Cons", lazy(), lazy())},
		{app(lam(con("S", self)), lam(con("S", self))), cell("S", lazy())},
		{app(lam(con("S", con("S", con("S", self)))), lam(con("S", con("S", con("S", self))))), cell("S", lazy())},
	} {
		_, steps, e := head.Run(c.x, mostFuel)
		if e != 0 || steps < 1 {
			t.Fatal(toldTerm(c.x), steps, e)
		}
		for _, fuel := range []int{0, 1, 2, 3, 50, 333, 1000} {
			checkError(t, c.x, true, fuel, fuel, errFuel)
		}
		checkSteps(t, c.x, false, steps, c.want)
	}
	checkError(t, program(t, "letrec l = Cons 1 l in l"), true, mostFuel, mostFuel, errFuel)
	checkError(t, app(lam(con("S", self)), lam(con("S", self))), true, mostFuel, mostFuel, errFuel)
}

func TestFuel(t *testing.T) {
	for _, x := range []api.Term{number(7), con("A"), con("P", number(1), round()), failed(), lam(variable(0)), round(), op("+", number(1), number(2)), of(mostTerm + 1), variable(0), {}} {
		for _, fuel := range []int{fewest, fewest + 1, -mostFuel, -2, -1, mostFuel + 1, mostFuel + 2, 1 << 62, most} {
			checkError(t, x, false, fuel, 0, errArg)
			checkError(t, x, true, fuel, 0, errArg)
		}
	}
	checkEval(t, number(7), true, 0, whole(7), 0, 0)
	checkEval(t, number(7), true, mostFuel, whole(7), 0, 0)
}

// TestMostFuel has as many steps, in parts, as the most fuel, and one more.
func TestMostFuel(t *testing.T) {
	x, n, steps := sums(95, number(1)), 96, 95
	// Each one is taken twice, by two steps.
	for range 8 {
		x, n, steps = app(lam(op("+", variable(0), variable(0))), x), 2*n, 2*steps+2
	}
	parts := mostFuel / steps
	more := mostFuel - steps*parts
	if parts != 4 || more > 2000 {
		t.Fatal(steps, parts, more)
	}
	of := func(more int) api.Term { return con("Q", x, x, x, x, con("S", sums(more, number(0)))) }
	want := func(more int) api.Shape {
		return cell("Q", whole(n), whole(n), whole(n), whole(n), cell("S", whole(more)))
	}
	checkSteps(t, of(more-1), true, mostFuel-1, want(more-1))
	checkSteps(t, of(more), true, mostFuel, want(more))
	checkError(t, of(more), true, mostFuel-1, mostFuel-1, errFuel)
	checkError(t, of(more+1), true, mostFuel, mostFuel, errFuel)
	checkError(t, of(more+2), true, mostFuel, mostFuel, errFuel)
}

func TestTermsThatAreNotClosed(t *testing.T) {
	for _, x := range []api.Term{
		variable(0), variable(-1), lam(variable(1)), app(variable(0), number(1)), app(lam(number(1)), variable(0)), con("A", variable(3)),
		con("P", number(1), variable(0)), con("S", lam(variable(1))), con("S", con("S", variable(0))), op("+", number(1), variable(0)),
		choice(con("A"), alt("A", 0, variable(0))), choice(con("A"), alt("A", 0, number(1)), alt("B", 2, variable(2))),
		con("P", round(), variable(0)), con("P", of(mostTerm), variable(0)),
	} {
		for _, fuel := range []int{0, 1, mostFuel, -1, mostFuel + 1} {
			checkError(t, x, false, fuel, 0, errArg)
			checkError(t, x, true, fuel, 0, errArg)
		}
	}
}

func TestTermsThatMayNotBe(t *testing.T) {
	one := number(1)
	wrong := []api.Term{
		{}, {Kind: -1}, {Kind: 10}, {Kind: fewest}, {Kind: most}, {Kind: 2}, {Kind: 3}, {Kind: 5}, {Kind: 6}, {Kind: 8}, {Kind: 4},
		{Kind: 7, Name: "A"}, {Kind: 7, L: []api.Term{one}}, {Kind: 9, N: 1}, {Kind: 9, L: []api.Term{one}}, {Kind: 9, Name: "A"},
		con("a"), con(""), con("A B"), con("A "), con("ABCDEFGHIJKLMNOPQ"), {Kind: 4, Name: "A", N: 1}, con("A", slices.Repeat([]api.Term{one}, 9)...),
		lam(alt("A", 0, one)), choice(one), choice(con("A"), one), choice(con("A"), alt("A", 0, one), alt("A", 0, one)),
		choice(con("A"), alt("A", 9, one)), op("%", one, one), op("", one, one), {Kind: 8, Name: "+", L: []api.Term{one}},
		{Kind: 2, N: 1, L: []api.Term{one}}, {Kind: 3, L: []api.Term{lam(one)}}, {Kind: 3, L: []api.Term{lam(one), one, one}},
	}
	for _, x := range wrong {
		for _, y := range []api.Term{x, con("S", x), con("P", one, x), con("S", con("S", x)), lam(x), app(lam(one), x)} {
			for _, fuel := range []int{0, 1, mostFuel, -1} {
				checkError(t, y, false, fuel, 0, errArg)
				checkError(t, y, true, fuel, 0, errArg)
			}
		}
	}
	for _, x := range []api.Term{alt("A", 0, one), con("S", alt("A", 0, one)), con("P", one, alt("A", 1, one))} {
		checkError(t, x, false, 9, 0, errArg)
		checkError(t, x, true, 9, 0, errArg)
	}
}

func TestTermsThatAreWide(t *testing.T) {
	for _, deep := range []bool{false, true} {
		for _, fuel := range []int{0, 1, mostFuel} {
			for _, x := range []api.Term{of(mostTerm + 1), of(levels), con("P", of(2500), of(2500)), con("S", of(mostTerm)), app(lam(number(1)), of(4998))} {
				checkError(t, x, deep, fuel, 0, errWide)
				checkError(t, x, deep, -1, 0, errArg)
			}
		}
		checkSteps(t, of(mostTerm), deep, 0, fun())
		checkError(t, doubled(2500), deep, 1, 1, errWide)
		checkError(t, doubled(2500), deep, 0, 0, errFuel)
	}
	two := cell("P", fun(), fun())
	checkSteps(t, con("P", of(2500), of(2499)), true, 0, two)
	checkSteps(t, doubled(2499), true, 1, two)
	// Each part is as wide as it may be, by itself; together they are wider.
	checkSteps(t, con("S", doubled(2499)), true, 1, cell("S", two))
	checkSteps(t, con("P", doubled(2480), doubled(2480)), true, 2, cell("P", two, two))
	checkError(t, con("P", doubled(2470), doubled(2500)), true, 50, 2, errWide)
	checkError(t, con("P", doubled(2500), doubled(2470)), true, 50, 1, errWide)
	checkError(t, con("S", doubled(2500)), true, 1, 1, errWide)
	checkError(t, con("S", doubled(2500)), true, 0, 0, errFuel)
	checkSteps(t, con("S", doubled(2500)), false, 0, cell("S", lazy()))
}

// TestShapesOfMoreParts has shapes of more parts than a term may have.
func TestShapesOfMoreParts(t *testing.T) {
	x, want := con("E"), cell("E")
	for range 8 {
		x.L, want.L = append(x.L, number(len(x.L))), append(want.L, whole(len(want.L)))
	}
	x, want = con("E", x, x, x, x, x, x, x, x), cell("E", want, want, want, want, want, want, want, want)
	// Each level by one step, that has all 8 parts of one.
	for range 3 {
		v := variable(0)
		x, want = app(lam(con("E", v, v, v, v, v, v, v, v)), x), cell("E", want, want, want, want, want, want, want, want)
	}
	checkSteps(t, x, true, 1+8+64, want)
	if n := strings.Count(value.Text(want), " "); n < mostTerm {
		t.Error("few parts", n)
	}
}

func TestDeepShapes(t *testing.T) {
	t.Parallel()
	x, s := number(7), whole(7)
	for range mostTerm - 1 {
		x, s = con("S", x), cell("S", s)
	}
	checkSteps(t, x, true, 0, s)
	checkSteps(t, x, false, 0, cell("S", lazy()))
	checkError(t, con("S", x), true, 5, 0, errWide)
	// Behind each step some levels more.
	again := app(app(variable(1), variable(1)), op("-", variable(0), number(1)))
	for range 200 {
		again = con("S", again)
	}
	f := lam(lam(choice(op("==", variable(0), number(0)), alt("True", 0, con("Z")), alt("False", 0, again))))
	s = cell("Z")
	for range 60 * 200 {
		s = cell("S", s)
	}
	got, steps, e := value.Eval(app(app(f, f), number(60)), true, mostFuel)
	if !value.Same(got, s) || e != 0 {
		t.Error(toldShape(got), steps, e)
	}
	checkError(t, app(app(f, f), number(60)), true, steps-1, steps-1, errFuel)
}

func TestDeepAndWideTerms(t *testing.T) {
	t.Parallel()
	for _, f := range []func(x api.Term) api.Term{
		lam,
		func(x api.Term) api.Term { return con("A", x) },
		func(x api.Term) api.Term { return app(x, number(1)) },
		func(x api.Term) api.Term { return op("+", number(1), x) },
	} {
		x, y := number(1), op("%", number(1), number(1))
		for range levels - 3 {
			x, y = f(x), f(y)
		}
		for _, deep := range []bool{false, true} {
			checkError(t, x, deep, mostFuel, 0, errWide)
			checkError(t, y, deep, mostFuel, 0, errArg)
		}
	}
	checkError(t, con("A", slices.Repeat([]api.Term{number(1)}, 200000)...), true, 5, 0, errArg)
	checkError(t, con(strings.Repeat("A", 200000)), true, 5, 0, errArg)
}

// P10.1, held against the chapter's words.

func readEval(x api.Term, deep bool, fuel int) (api.Shape, int, api.Errno) {
	x, steps, e := head.Run(x, fuel)
	if e != 0 {
		return api.Shape{}, steps, e
	}
	switch x.Kind {
	case 7:
		return whole(x.N), steps, 0
	case 2:
		return fun(), steps, 0
	case 9:
		return bad(), steps, 0
	}
	s := cell(x.Name)
	for _, p := range x.L {
		part := lazy()
		if deep {
			var n int
			part, n, e = readEval(p, true, fuel-steps)
			steps += n
			if e != 0 {
				return api.Shape{}, steps, e
			}
		}
		s.L = append(s.L, part)
	}
	return s, steps, 0
}

// checkEvalRead asks for x, held against the chapter's words, and tells the error.
func checkEvalRead(t *testing.T, x api.Term, deep bool, fuel int) api.Errno {
	t.Helper()
	want, steps, e := readEval(x, deep, fuel)
	checkEval(t, x, deep, fuel, want, steps, e)
	return e
}

// likely is a term that may be, of so many free variables; much of it has steps.
func likely(r *rand.Rand, deep, free int) api.Term {
	part := func(more int) api.Term { return likely(r, deep-1-r.Intn(2), free+more) }
	cons := func(n int) api.Term {
		x := con(pick(r, "A", "B", "C"))
		for range n {
			x.L = append(x.L, part(0))
		}
		return x
	}
	if deep <= 0 {
		if free > 0 && r.Intn(4) > 0 {
			return variable(r.Intn(free))
		}
		return pick(r, number(r.Intn(5)-1), number(r.Intn(5)-1), con(pick(r, "A", "B", "True")), failed())
	}
	switch r.Intn(11) {
	case 0:
		return lam(part(1))
	case 1, 2:
		return app(lam(part(1)), part(0))
	case 3:
		return app(part(0), part(0))
	case 4, 5, 6:
		return cons(r.Intn(4))
	case 7:
		return op(pick(r, "+", "-", "*", "/", "<", "=="), part(0), number(r.Intn(9)-2))
	case 8:
		return choice(op(pick(r, "<", "=="), number(r.Intn(3)), part(0)), alt("True", 0, part(0)), alt("False", 0, part(0)))
	case 9:
		n := r.Intn(4)
		return choice(cons(n), alt("A", n, part(n)), alt("B", n, part(n)), alt("C", n, part(n)))
	}
	n := r.Intn(3)
	return choice(part(0), alt(pick(r, "A", "B"), n, part(n)), alt("C", 1, part(1)))
}

// looping is a closed term that goes round, most often, by functions that take themselves.
func looping(r *rand.Rand) api.Term {
	again := app(variable(1), variable(1))
	ends := choice(op("<", variable(0), number(r.Intn(20))), alt("True", 0, app(again, op("+", variable(0), number(1)))), alt("False", 0, con("A")))
	b := likely(r, r.Intn(4), 2)
	f := lam(lam(pick(r,
		ends,
		con("C", b, ends),
		con("B", app(again, op("+", variable(0), number(1))), b),
		app(again, b),
		choice(op("<", variable(0), number(r.Intn(9))), alt("True", 0, con("C", b, app(again, op("+", variable(0), number(1))))), alt("False", 0, b)),
	)))
	return app(app(f, copiedTerm(f)), number(r.Intn(5)))
}

// widen puts values of many parts in the places of some numbers.
func widen(r *rand.Rand, x *api.Term) {
	if x.Kind == 7 && r.Intn(3) == 0 {
		*x = of(1 + r.Intn(1800))
		return
	}
	for i := range x.L {
		widen(r, &x.L[i])
	}
}

func checkOften(t *testing.T, seen map[api.Errno]int, least int, l ...api.Errno) {
	t.Helper()
	for _, e := range l {
		if seen[e] < least {
			t.Errorf("few of %d: %v", e, seen)
		}
	}
}

func TestClosedTerms(t *testing.T) {
	t.Parallel()
	r := rand.New(rand.NewSource(1))
	seen := map[api.Errno]int{}
	steps := 0
	for range 20000 {
		x := likely(r, r.Intn(8), 0)
		fuel := pick(r, 0, 1, 2, 3, 5, 10, 100)
		seen[checkEvalRead(t, x, true, fuel)]++
		checkEvalRead(t, x, false, fuel)
		_, n, _ := value.Eval(x, true, 1000)
		steps = max(steps, n)
	}
	checkOften(t, seen, 1000, 0, errFuel)
	if steps < 10 {
		t.Error("all take few steps", steps)
	}
}

func TestTermsThatGoRound(t *testing.T) {
	t.Parallel()
	r := rand.New(rand.NewSource(2))
	seen := map[api.Errno]int{}
	for range 1000 {
		x := looping(r)
		seen[checkEvalRead(t, x, true, r.Intn(200))]++
		checkEvalRead(t, x, false, r.Intn(40))
	}
	checkOften(t, seen, 200, 0, errFuel)
}

func TestTermsOfWideParts(t *testing.T) {
	t.Parallel()
	r := rand.New(rand.NewSource(3))
	seen := map[api.Errno]int{}
	for range 2000 {
		x := likely(r, 2+r.Intn(5), 0)
		widen(r, &x)
		if core.Size(x) > mostTerm+500 {
			continue
		}
		_, steps, _ := readEval(x, true, 1000)
		for _, fuel := range []int{max(steps-1, 0), steps, 1000} {
			seen[checkEvalRead(t, x, true, fuel)]++
		}
		checkEvalRead(t, x, false, r.Intn(5))
	}
	checkOften(t, seen, 50, 0, errFuel, errWide)
}

// harmTerm changes one thing of x, or of one of its parts.
func harmTerm(r *rand.Rand, x *api.Term) {
	if len(x.L) > 0 && r.Intn(4) > 0 {
		harmTerm(r, &x.L[r.Intn(len(x.L))])
		return
	}
	switch r.Intn(5) {
	case 0:
		x.Kind = r.Intn(12) - 1
	case 1:
		x.Name = pick(r, "", "x", "A", "B", "+", "1", "=", " A")
	case 2:
		x.N = pick(r, -1, 0, 1, 2, 3, 8, 9, fewest, most)
	case 3:
		x.L = x.L[:max(len(x.L)-1, 0)]
	case 4:
		x.L = append(slices.Clip(x.L), pick(r, variable(0), number(1), alt("A", 1, number(1)), alt("C", 0, variable(0))))
	}
}

// wildTerm is a term that has anything.
func wildTerm(r *rand.Rand, deep int) api.Term {
	x := api.Term{
		Kind: pick(r, 1, 2, 3, 4, 4, 4, 5, 6, 7, 8, 9, 0, -1, 10, fewest, most),
		N:    pick(r, 0, 0, 0, 0, 0, 0, 1, 2, 8, 9, -1, fewest, most),
		Name: pick(r, "", "", "", "A", "B", "+", "/", "x", "(", "\xff", "let"),
	}
	for range r.Intn(4) {
		if deep > 0 {
			x.L = append(x.L, wildTerm(r, deep-1))
		}
	}
	return x
}

func TestHarmedAndWildTerms(t *testing.T) {
	t.Parallel()
	r := rand.New(rand.NewSource(4))
	seen := map[api.Errno]int{}
	for i := range 20000 {
		x := wildTerm(r, r.Intn(5))
		if i%2 == 0 {
			x = likely(r, r.Intn(5), 0)
			harmTerm(r, &x)
		}
		seen[checkEvalRead(t, x, i%4 < 2, pick(r, 0, 1, 7, 30, 500, mostFuel+1, -1, fewest, most))]++
	}
	checkOften(t, seen, 300, 0, errArg)
}

// P10.2: May.

// names are of constructors, and of others.
func names() (may, mayNot []string) {
	may = []string{"A", "Z", "Nil", "True", "AB", "A1", "A0b9Z", "Az", "Let", "In", "LET", "ABCDEFGHIJKLMNOP", "A123456789012345", "Fun"}
	mayNot = []string{
		"", "a", "z", "nil", "aB", "let", "in", "of", "case", "letrec", "fun", "fail", "?", "1", "0", "12", "1A", "-1",
		" ", " A", "A ", "A B", "A\n", "\tA", "A\x00", "\x00A", "A_", "_A", "A'", "A.", "(A)", "A(", "\\", "->", "A->", "+", "==",
		"\u00c4", "A\u00e4", "A\xff", "\xffA", "\u0410", "A\u0661", "ABCDEFGHIJKLMNOPQ", "A1234567890123456", "@", "[", "`", "{", "/", ":",
	}
	for c := range 256 {
		s := string([]byte{byte(c)})
		isCapital := c >= 'A' && c <= 'Z'
		isInside := isCapital || c >= 'a' && c <= 'z' || c >= '0' && c <= '9'
		if isCapital {
			may = append(may, s)
		} else {
			mayNot = append(mayNot, s, s+"A")
		}
		if isInside {
			may = append(may, "A"+s, "Ab"+s+"c")
		} else {
			mayNot = append(mayNot, "A"+s, "A"+s+"b")
		}
	}
	return may, append(mayNot, strings.Repeat("A", 17), strings.Repeat("A", 200), strings.Repeat("A", 1<<20))
}

func TestMayOfNames(t *testing.T) {
	may, mayNot := names()
	for _, s := range may {
		checkMay(t, cell(s), true)
		checkMay(t, cell(s, whole(1), cell(s)), true)
	}
	for _, s := range mayNot {
		checkMay(t, cell(s), false)
		checkMay(t, cell(s, whole(1)), false)
		checkMay(t, cell("A", whole(1), cell(s)), false)
	}
	for _, kind := range []int{1, 3, 4, 5} {
		checkMay(t, api.Shape{Kind: kind}, true)
		for _, s := range []string{"A", "a", " ", "fun", "fail", "?", "1", "\x00"} {
			checkMay(t, api.Shape{Kind: kind, Name: s}, false)
		}
	}
}

func TestMayOfNumbers(t *testing.T) {
	for _, n := range []int{0, 1, -1, 2, 7, 8, 1000, 1e18, fewest, fewest + 1, most} {
		checkMay(t, whole(n), true)
		checkMay(t, cell("A", whole(n)), true)
		checkMay(t, api.Shape{Kind: 2, N: n, Name: "A"}, n == 0)
		checkMay(t, api.Shape{Kind: 2, N: n, Name: "A", L: []api.Shape{whole(1)}}, n == 0)
		for kind := 3; kind <= 5; kind++ {
			checkMay(t, api.Shape{Kind: kind, N: n}, n == 0)
		}
	}
}

func TestMayOfKinds(t *testing.T) {
	for _, kind := range []int{0, -1, 6, 7, 9, 256, 257, 1<<32 + 1, fewest, fewest + 1, most} {
		for _, name := range []string{"", "A"} {
			for _, l := range [][]api.Shape{nil, {whole(1)}} {
				checkMay(t, api.Shape{Kind: kind, Name: name, L: l}, false)
				checkMay(t, cell("A", api.Shape{Kind: kind, Name: name, L: l}), false)
			}
		}
	}
}

func TestMayOfParts(t *testing.T) {
	good := []api.Shape{whole(-3), cell("A"), fun(), bad(), lazy(), cell("B", lazy(), cell("C", fun()))}
	wrong := []api.Shape{{}, {Kind: 6}, cell("a"), cell(""), {Kind: 3, N: 1}, {Kind: 1, Name: "A"}, cell("A", api.Shape{}), cell("A", whole(1), cell("B", cell("b")))}
	for _, p := range good {
		checkMay(t, p, true)
		// As many parts as one may have, and one more.
		for n := range 20 {
			checkMay(t, cell("A", slices.Repeat([]api.Shape{p}, n)...), n <= 8)
			checkMay(t, cell("B", cell("A", slices.Repeat([]api.Shape{p}, n)...)), n <= 8)
		}
		for _, kind := range []int{1, 3, 4, 5} {
			checkMay(t, api.Shape{Kind: kind, L: []api.Shape{p}}, false)
			checkMay(t, api.Shape{Kind: kind, L: []api.Shape{p, p}}, false)
		}
	}
	for _, p := range wrong {
		checkMay(t, p, false)
		for n := range 9 {
			for at := range n {
				l := slices.Repeat([]api.Shape{whole(1)}, n)
				l[at] = p
				checkMay(t, cell("A", l...), false)
				checkMay(t, cell("A", lazy(), cell("A", l...)), false)
			}
		}
	}
	checkMay(t, cell("A", slices.Repeat([]api.Shape{whole(1)}, 200000)...), false)
}

var conName = regexp.MustCompile(`^[A-Z][a-zA-Z0-9]{0,15}\z`)

// readMay is May, by a pattern.
func readMay(s api.Shape) bool {
	blank := s.Name == "" && len(s.L) == 0
	switch s.Kind {
	case 1:
		return blank
	case 2:
		for _, p := range s.L {
			if !readMay(p) {
				return false
			}
		}
		return conName.MatchString(s.Name) && s.N == 0 && len(s.L) <= 8
	}
	return s.Kind >= 3 && s.Kind <= 5 && s.N == 0 && blank
}

// P10.2: Text.

func TestTexts(t *testing.T) {
	for _, c := range []struct {
		s    api.Shape
		want string
	}{
		{whole(0), "0"}, {whole(1), "1"}, {whole(-1), "-1"}, {whole(10), "10"}, {whole(-907), "-907"}, {whole(1000000), "1000000"},
		{whole(most), "9223372036854775807"}, {whole(fewest), "-9223372036854775808"},
		{fun(), "fun"}, {bad(), "fail"}, {lazy(), "?"},
		{cell("Nil"), "Nil"}, {cell("S", whole(1)), "(S 1)"}, {cell("S", cell("Nil")), "(S Nil)"},
		{cell("Cons", whole(1), cell("Nil")), "(Cons 1 Nil)"}, {cell("Cons", lazy(), lazy()), "(Cons ? ?)"},
		{cell("Cons", whole(6), whole(6)), "(Cons 6 6)"}, {cell("P", whole(-1), whole(-2)), "(P -1 -2)"},
		{cell("T", fun(), bad(), lazy()), "(T fun fail ?)"},
		{cell("T", cell("P", whole(1), whole(2)), cell("Nil"), cell("P", cell("S", whole(3)), fun())), "(T (P 1 2) Nil (P (S 3) fun))"},
		{cell("E", whole(1), whole(2), whole(3), whole(4), whole(5), whole(6), whole(7), whole(8)), "(E 1 2 3 4 5 6 7 8)"},
		// What may not be.
		{api.Shape{}, ""}, {api.Shape{Name: "A"}, "A"}, {api.Shape{N: 7}, ""}, {api.Shape{L: []api.Shape{whole(1), {}}}, "( 1 )"},
		{api.Shape{Kind: 6, Name: "fun"}, "fun"}, {api.Shape{Kind: -1, Name: "x", L: []api.Shape{lazy()}}, "(x ?)"},
		{api.Shape{Kind: fewest, N: 3, Name: "A", L: []api.Shape{whole(1)}}, "(A 1)"}, {api.Shape{Kind: most, Name: "A"}, "A"},
		{api.Shape{Kind: 1, N: 5, Name: "A", L: []api.Shape{whole(6)}}, "5"},
		{api.Shape{Kind: 3, N: 5, Name: "A", L: []api.Shape{whole(6)}}, "fun"},
		{api.Shape{Kind: 4, N: 5, Name: "A", L: []api.Shape{whole(6)}}, "fail"},
		{api.Shape{Kind: 5, N: 5, Name: "A", L: []api.Shape{whole(6)}}, "?"},
		{api.Shape{Kind: 2, N: 5, Name: "A"}, "A"}, {api.Shape{Kind: 2, N: 5, Name: "A", L: []api.Shape{whole(6)}}, "(A 6)"},
		{cell(""), ""}, {cell("", whole(1)), "( 1)"}, {cell("", cell(""), cell("")), "(  )"}, {cell("a b", cell("(")), "(a b ()"}, {cell("\xff\x00", cell("\n")), "(\xff\x00 \n)"},
		{cell("A", slices.Repeat([]api.Shape{whole(1)}, 12)...), "(A 1 1 1 1 1 1 1 1 1 1 1 1)"},
	} {
		checkText(t, c.s, c.want)
	}
}

// readText is Text, made of its parts' texts.
func readText(s api.Shape) string {
	switch s.Kind {
	case 1:
		return strconv.FormatInt(int64(s.N), 10)
	case 3, 4, 5:
		return []string{"fun", "fail", "?"}[s.Kind-3]
	}
	l := []string{s.Name}
	for _, p := range s.L {
		l = append(l, readText(p))
	}
	if len(l) == 1 {
		return s.Name
	}
	return "(" + strings.Join(l, " ") + ")"
}

// P10.2: Same.

func TestSame(t *testing.T) {
	all := []api.Shape{
		{}, {N: 1}, {Name: "A"}, {L: []api.Shape{{}}}, {Kind: -1}, {Kind: 6}, whole(0), whole(1), whole(-1), whole(fewest), whole(most),
		fun(), bad(), lazy(), {Kind: 3, N: 1}, {Kind: 4, Name: "A"}, {Kind: 5, L: []api.Shape{lazy()}}, {Kind: 1, Name: "A"}, {Kind: 1, N: 1, L: []api.Shape{whole(1)}},
		cell(""), cell("A"), cell("B"), cell("AB"), cell("a"), cell("A "), {Kind: 2, Name: "A", N: 1},
		cell("A", whole(1)), cell("A", whole(2)), cell("B", whole(1)), cell("A", lazy()), cell("A", fun()), cell("A", bad()), cell("A", cell("A")), cell("A", api.Shape{}),
		cell("A", whole(1), whole(2)), cell("A", whole(2), whole(1)), cell("A", whole(1), whole(1)), cell("A", whole(1), whole(2), whole(3)),
		cell("A", cell("A", whole(1))), cell("A", cell("A", whole(2))), cell("A", cell("B", whole(1))), cell("A", cell("A", whole(1)), whole(1)), cell("A", cell("A", whole(1), whole(1))),
		cell("A", cell("A", cell("A", whole(1), fun()))), cell("A", cell("A", cell("A", whole(1), bad()))),
	}
	for i, a := range all {
		for j, b := range all {
			checkSame(t, a, copied(b), i == j)
			checkSame(t, cell("C", lazy(), a), cell("C", lazy(), b), i == j)
		}
	}
}

// likelyShape is a shape that may be.
func likelyShape(r *rand.Rand, deep int) api.Shape {
	if deep <= 0 || r.Intn(5) == 0 {
		return pick(r, whole(r.Intn(4)-1), whole(int(r.Uint64())>>r.Intn(64)), fun(), bad(), lazy(), cell(pick(r, "A", "B", "Nil")))
	}
	s := cell(pick(r, "A", "B", "Cons", "ABCDEFGHIJKLMNOP"))
	for range pick(r, 1, 1, 2, 2, 3, 4, 8) {
		s.L = append(s.L, likelyShape(r, deep-1))
	}
	return s
}

// harm changes one thing of s, or of one of its parts.
func harm(r *rand.Rand, s *api.Shape) {
	if len(s.L) > 0 && r.Intn(4) > 0 {
		harm(r, &s.L[r.Intn(len(s.L))])
		return
	}
	switch r.Intn(6) {
	case 0:
		s.Kind = r.Intn(8) - 1
	case 1:
		s.Name = pick(r, "", "x", "A", "B", "Nil", " A", "fun", "ABCDEFGHIJKLMNOPQ")
	case 2:
		s.N = pick(r, -1, 0, 1, 2, fewest, most)
	case 3:
		s.L = s.L[:max(len(s.L)-1, 0)]
	case 4:
		s.L = append(slices.Clip(s.L), pick(r, whole(1), fun(), lazy(), cell("A"), api.Shape{}))
	case 5:
		s.L = slices.Clone(s.L)
		slices.Reverse(s.L)
	}
}

// wild is a shape that has anything.
func wild(r *rand.Rand, deep int) api.Shape {
	s := api.Shape{
		Kind: pick(r, 1, 2, 2, 2, 3, 4, 5, 0, -1, 6, fewest, most),
		N:    pick(r, 0, 0, 0, 0, 1, -1, fewest, most),
		Name: pick(r, "", "", "A", "A", "B", "x", "(", " ", "\xff"),
	}
	for range r.Intn(4) {
		if deep > 0 {
			s.L = append(s.L, wild(r, deep-1))
		}
	}
	return s
}

func TestShapesOfAllSorts(t *testing.T) {
	t.Parallel()
	r := rand.New(rand.NewSource(5))
	seen := map[bool]int{}
	for i := range 30000 {
		s := wild(r, r.Intn(4))
		if i%3 > 0 {
			s = likelyShape(r, r.Intn(4))
		}
		other := copied(s)
		if i%3 > 1 {
			harm(r, &other)
		}
		for _, x := range []api.Shape{s, other} {
			checkMay(t, x, readMay(x))
			checkText(t, x, readText(x))
			seen[readMay(x)]++
		}
		checkSame(t, s, other, equal(s, other))
	}
	if seen[true] < 5000 || seen[false] < 5000 {
		t.Error("few of some", seen)
	}
}

// P10.3.

// small are the shapes that may be of that size, over few names and numbers.
func small(size int) []api.Shape {
	if size == 1 {
		return []api.Shape{whole(0), whole(1), whole(-1), whole(11), fun(), bad(), lazy(), cell("A"), cell("AB"), cell("B")}
	}
	var l []api.Shape
	for _, parts := range smallLists(size - 1) {
		l = append(l, cell("A", parts...), cell("AB", parts...))
	}
	return l
}

// smallLists are the lists of shapes of that size, all together.
func smallLists(size int) [][]api.Shape {
	if size == 0 {
		return [][]api.Shape{nil}
	}
	var l [][]api.Shape
	for n := 1; n <= size; n++ {
		for _, p := range small(n) {
			for _, rest := range smallLists(size - n) {
				l = append(l, append([]api.Shape{p}, rest...))
			}
		}
	}
	return l
}

func TestUnlikeShapesHaveUnlikeTexts(t *testing.T) {
	seen := map[string]api.Shape{}
	for size := 1; size <= 5; size++ {
		for _, s := range small(size) {
			checkMay(t, s, true)
			text := value.Text(s)
			if other, is := seen[text]; is {
				t.Errorf("%s and %s: %s", toldShape(s), toldShape(other), text)
			}
			seen[text] = s
		}
	}
	if len(seen) < 10000 {
		t.Error("few", len(seen))
	}
}

func TestTextsAreReadAgain(t *testing.T) {
	t.Parallel()
	r := rand.New(rand.NewSource(6))
	for range 10000 {
		s := likelyShape(r, r.Intn(6))
		x := reader{value.Text(s)}
		if again := x.shape(); x.rest != "" || !equal(again, s) || !value.Same(again, s) {
			t.Errorf("%s: %s, read: %s", toldShape(s), cut(value.Text(s)), toldShape(again))
		}
	}
}

func hasLazy(s api.Shape) bool { return s.Kind == 5 || slices.ContainsFunc(s.L, hasLazy) }

func TestDeepAndShallow(t *testing.T) {
	t.Parallel()
	r := rand.New(rand.NewSource(7))
	kinds := map[int]int{}
	for i := range 5000 {
		x := likely(r, r.Intn(8), 0)
		if i%8 == 0 {
			x = looping(r)
		}
		s, steps, e := value.Eval(x, true, 100)
		if e != 0 {
			continue
		}
		kinds[s.Kind]++
		checkMay(t, s, true)
		if hasLazy(s) {
			t.Errorf("Eval(%s): %s", toldTerm(x), toldShape(s))
		}
		for i := range s.L {
			s.L[i] = lazy()
		}
		_, ahead, _ := head.Run(x, 100)
		if ahead > steps {
			t.Errorf("Eval(%s): %d steps, %d of them ahead", toldTerm(x), steps, ahead)
		}
		checkSteps(t, x, false, ahead, s)
	}
	if len(kinds) != 4 || min(kinds[1], kinds[2], kinds[3], kinds[4]) < 100 {
		t.Error("few of some, or others", kinds)
	}
}

// P1, and the rules: every call ends, none panics; nothing is changed, shared or kept.

func TestShapesOfManyLevels(t *testing.T) {
	t.Parallel()
	of := func(s api.Shape, level func(s api.Shape) api.Shape) api.Shape {
		for range levels - 1 {
			s = level(s)
		}
		return s
	}
	one := func(s api.Shape) api.Shape { return cell("S", s) }
	first := func(s api.Shape) api.Shape { return cell("P", s, whole(1)) }
	last := func(s api.Shape) api.Shape { return cell("P", whole(1), s) }
	no := func(s api.Shape) api.Shape { return api.Shape{Name: "S", L: []api.Shape{s}} }
	times := func(s string) string { return strings.Repeat(s, levels-1) }
	checkText(t, of(whole(7), one), times("(S ")+"7"+times(")"))
	checkText(t, of(fun(), first), times("(P ")+"fun"+times(" 1)"))
	checkText(t, of(lazy(), last), times("(P 1 ")+"?"+times(")"))
	checkText(t, of(bad(), no), times("(S ")+"fail"+times(")"))
	for _, level := range []func(s api.Shape) api.Shape{one, first, last} {
		checkMay(t, of(whole(7), level), true)
		checkMay(t, of(cell("a"), level), false)
		checkMay(t, of(api.Shape{}, level), false)
		checkSame(t, of(whole(7), level), of(whole(7), level), true)
		checkSame(t, of(whole(7), level), of(whole(8), level), false)
		checkSame(t, of(whole(7), level), of(level(whole(7)), level), false)
	}
	checkMay(t, of(whole(7), no), false)
	checkSame(t, of(whole(7), no), of(whole(7), no), true)
	checkSame(t, of(whole(7), no), of(whole(7), one), false)
}

func TestWideShapes(t *testing.T) {
	l := slices.Repeat([]api.Shape{cell("A", whole(1))}, 200000)
	checkText(t, cell("B", l...), "(B"+strings.Repeat(" (A 1)", len(l))+")")
	checkSame(t, cell("B", l...), cell("B", slices.Clone(l)...), true)
	checkSame(t, cell("B", l...), cell("B", l[1:]...), false)
	checkMay(t, cell("B", l...), false)
	long := strings.Repeat("A", 1<<20)
	checkText(t, cell(long, cell(long)), "("+long+" "+long+")")
	checkSame(t, cell(long), cell(strings.Clone(long)), true)
	checkSame(t, cell(long), cell(long[1:]), false)
}

// roomy is x, in memory of its own, each of whose lists has room behind it, that has something.
func roomy(x api.Term) api.Term {
	l := []api.Term{}
	for _, p := range x.L {
		l = append(l, roomy(p))
	}
	x.Name = strings.Clone(x.Name)
	x.L = append(l, number(77), failed())[:len(l)]
	return x
}

func checkRoom(t *testing.T, x api.Term) {
	t.Helper()
	behind := x.L[len(x.L) : len(x.L)+2]
	if behind[0].Kind != 7 || behind[0].N != 77 || behind[1].Kind != 9 {
		t.Errorf("behind a list of %s something was changed", toldTerm(x))
	}
	for _, p := range x.L {
		checkRoom(t, p)
	}
}

// namesOf are where the names of x stand.
func namesOf(x api.Term) []*byte {
	var l []*byte
	if x.Name != "" {
		l = append(l, unsafe.StringData(x.Name))
	}
	for _, p := range x.L {
		l = append(l, namesOf(p)...)
	}
	return l
}

// checkApart asks that no two lists of s are one, and that no name of it is one of these.
func checkApart(t *testing.T, s api.Shape, names []*byte) {
	t.Helper()
	seen := map[*api.Shape]bool{}
	var look func(p api.Shape)
	look = func(p api.Shape) {
		if p.Name != "" && slices.Contains(names, unsafe.StringData(p.Name)) {
			t.Errorf("%s shares a name", toldShape(s))
		}
		if cap(p.L) > 0 {
			at := unsafe.SliceData(p.L)
			if seen[at] {
				t.Errorf("%s shares a list", toldShape(s))
			}
			seen[at] = true
		}
		for _, q := range p.L {
			look(q)
		}
	}
	look(s)
}

func TestArgumentsAreLeft(t *testing.T) {
	t.Parallel()
	r := rand.New(rand.NewSource(8))
	for i := range 5000 {
		want := likely(r, r.Intn(7), 0)
		if i%4 == 0 {
			want = wildTerm(r, r.Intn(4))
		}
		x := roomy(want)
		for _, deep := range []bool{false, true} {
			s, _, _ := value.Eval(x, deep, r.Intn(100))
			checkApart(t, s, namesOf(x))
		}
		if !core.Same(x, want) {
			t.Errorf("%s was changed: %s", toldTerm(want), toldTerm(x))
		}
		checkRoom(t, x)
	}
	for range 2000 {
		s := wild(r, r.Intn(4))
		want := copied(s)
		value.May(s)
		value.Text(s)
		value.Same(s, wild(r, 2))
		value.Same(s, copied(s))
		if !equal(s, want) {
			t.Errorf("%s was changed: %s", toldShape(want), toldShape(s))
		}
	}
}

func TestAnswersShareNothing(t *testing.T) {
	twice := app(lam(con("P", variable(0), variable(0), variable(0))), con("Q", con("Rr"), con("Rr", number(1))))
	for _, x := range []api.Term{con("Abc"), con("Abc", con("Abc", con("B")), con("Abc")), twice, con("S", twice), con("P", twice, twice)} {
		x = roomy(x)
		for _, deep := range []bool{false, true} {
			s, _, _ := value.Eval(x, deep, 100)
			checkApart(t, s, namesOf(x))
		}
	}
	for _, s := range []api.Shape{cell(strings.Clone("Abc")), {Name: strings.Clone("Abc")}, cell(strings.Clone("Abc"), lazy())} {
		if text := value.Text(s); unsafe.StringData(text) == unsafe.StringData(s.Name) {
			t.Errorf("the text shares memory with %s", toldShape(s))
		}
	}
}

// scratch writes into all lists of s.
func scratch(s *api.Shape) {
	for i := range s.L {
		scratch(&s.L[i])
	}
	*s = whole(-99)
}

func TestNothingIsKept(t *testing.T) {
	r := rand.New(rand.NewSource(9))
	for range 1000 {
		x := likely(r, r.Intn(7), 0)
		for range 2 {
			checkEvalRead(t, x, true, 40)
			checkEvalRead(t, x, false, 40)
			// One that ends ahead of its end, and one that may not be.
			checkError(t, con("P", sums(3, number(0)), round()), true, 20, 20, errFuel)
			checkError(t, x, true, -1, 0, errArg)
			for _, deep := range []bool{false, true} {
				s, _, _ := value.Eval(x, deep, 40)
				scratch(&s)
			}
		}
	}
}

// emptied has an empty list wherever x has none.
func emptied(x api.Term) api.Term {
	l := []api.Term{}
	for _, p := range x.L {
		l = append(l, emptied(p))
	}
	x.L = l
	return x
}

func TestEmptyListsAndNilOnes(t *testing.T) {
	t.Parallel()
	r := rand.New(rand.NewSource(10))
	for range 3000 {
		x := likely(r, r.Intn(6), 0)
		for _, deep := range []bool{false, true} {
			want, steps, e := value.Eval(x, deep, 40)
			checkEval(t, emptied(x), deep, 40, want, steps, e)
		}
	}
	for kind := -1; kind <= 6; kind++ {
		for _, name := range []string{"", "A"} {
			no := api.Shape{Kind: kind, Name: name}
			for _, l := range [][]api.Shape{{}, make([]api.Shape, 0, 4)} {
				empty := api.Shape{Kind: kind, Name: name, L: l}
				checkSame(t, no, empty, true)
				checkSame(t, cell("A", no), cell("A", empty), true)
				checkMay(t, empty, readMay(no))
				checkText(t, empty, readText(no))
			}
		}
	}
}

func TestCallsAtOneTime(t *testing.T) {
	r := rand.New(rand.NewSource(11))
	var all []api.Term
	for range 50 {
		all = append(all, likely(r, 6, 0), looping(r))
	}
	var wait sync.WaitGroup
	for range 8 {
		wait.Go(func() {
			for _, x := range all {
				checkEvalRead(t, x, true, 50)
				checkEvalRead(t, x, false, 50)
				s, _, _ := value.Eval(x, true, 50)
				checkText(t, s, readText(s))
				checkSame(t, s, copied(s), true)
			}
		})
	}
	wait.Wait()
}
