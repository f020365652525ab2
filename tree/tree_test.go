package tree_test

import (
	"math"
	"math/rand"
	"reflect"
	"slices"
	"strings"
	"testing"

	"gossamer/api"
	"gossamer/tree"
)

const (
	name16 = "abcdefghijklmnop"
	con16  = "ABCDEFGHIJKLMNOP"
	great  = 999999999999999999
	levels = 1 << 16
)

// Kinds are written as numbers: the chapter tells them so.

func variable(s string) api.Tree           { return api.Tree{Kind: 1, Name: s} }
func lam(s string, b api.Tree) api.Tree    { return api.Tree{Kind: 2, Name: s, L: []api.Tree{b}} }
func app(f, a api.Tree) api.Tree           { return api.Tree{Kind: 3, L: []api.Tree{f, a}} }
func let(s string, x, b api.Tree) api.Tree { return api.Tree{Kind: 4, Name: s, L: []api.Tree{x, b}} }
func rec(s string, x, b api.Tree) api.Tree { return api.Tree{Kind: 5, Name: s, L: []api.Tree{x, b}} }
func con(s string, l ...api.Tree) api.Tree { return api.Tree{Kind: 6, Name: s, L: l} }
func number(n int) api.Tree                { return api.Tree{Kind: 9, N: n} }
func op(s string, a, b api.Tree) api.Tree  { return api.Tree{Kind: 10, Name: s, L: []api.Tree{a, b}} }

func choice(x api.Tree, alts ...api.Tree) api.Tree {
	return api.Tree{Kind: 7, L: append([]api.Tree{x}, alts...)}
}

// alt is an alternative with as many variables as it has parts, less one.
func alt(s string, l ...api.Tree) api.Tree {
	return api.Tree{Kind: 8, Name: s, N: len(l) - 1, L: l}
}

func many(n int, p api.Tree) []api.Tree { return slices.Repeat([]api.Tree{p}, n) }

// at is t, in which each tree begins at that place.
func at(t api.Tree, n int) api.Tree {
	t.At, t.L = n, slices.Clone(t.L)
	for i, p := range t.L {
		t.L[i] = at(p, n)
	}
	return t
}

// ordinary has a tree of each kind, TreeAlt within a TreeCase.
func ordinary() map[string]api.Tree {
	x, y := variable("x"), variable("y")
	return map[string]api.Tree{
		"variable": x,
		"function": lam("x", x),
		"applied":  app(x, y),
		"let":      let("x", number(1), op("+", x, x)),
		"letrec":   rec("f", lam("n", app(variable("f"), variable("n"))), app(variable("f"), number(40))),
		"con":      con("Nil"),
		"cons":     con("Cons", number(1), con("Cons", number(2), con("Nil"))),
		"case":     choice(x, alt("Nil", number(0)), alt("Cons", variable("h"), variable("t"), variable("h"))),
		"number":   number(7),
		"operator": op("==", op("-", x, number(1)), op("*", y, number(2))),
		"nested":   choice(choice(x, alt("A", y)), alt("B", choice(y, alt("C", variable("z"), lam("z", x))))),
	}
}

func checkMay(t *testing.T, what string, x api.Tree, want bool) {
	t.Helper()
	if tree.May(x) != want {
		t.Errorf("%s: May(%v): %v", what, x, !want)
	}
}

// checkIn asks for x by itself, and where it is a part of each kind of tree.
func checkIn(t *testing.T, what string, x api.Tree, want bool) {
	t.Helper()
	one := number(1)
	checkMay(t, what, x, want)
	for place, in := range map[string]api.Tree{
		" in a function":              lam("x", x),
		" on the left of an app":      app(x, one),
		" on the right of an app":     app(one, x),
		" in a let":                   let("x", x, one),
		" behind a let":               let("x", one, x),
		" in a letrec":                rec("x", x, one),
		" behind a letrec":            rec("x", one, x),
		" in a con":                   con("A", x),
		" last in a con":              con("A", append(many(7, one), x)...),
		" in a case":                  choice(x, alt("A", one)),
		" in an alternative":          choice(one, alt("A", x)),
		" in the last of 8":           choice(one, append(many(7, alt("A", one)), alt("B", variable("x"), x))...),
		" on the left of a sum":       op("+", x, one),
		" on the right of a sum":      op("+", one, x),
		" far in":                     lam("x", app(con("A", op("<", one, choice(one, alt("A", let("x", x, one))))), one)),
		" behind one that may not be": app(number(-1), x),
	} {
		checkMay(t, what+place, in, want && !strings.Contains(place, "may not be"))
	}
}

// P2.1, May: ordinary trees.

func TestOrdinaryTreesMayBe(t *testing.T) {
	for what, x := range ordinary() {
		checkIn(t, what, x, true)
		checkIn(t, what+", further on", at(x, 12), true)
	}
}

// What names mean is not asked for here: none need be bound, or unlike another one.
func TestNamesAreNotLookedUp(t *testing.T) {
	x := variable("x")
	checkMay(t, "free", app(x, variable("y")), true)
	checkMay(t, "alternatives of one name", choice(x, alt("A", x), alt("A", x, x)), true)
	checkMay(t, "variables of one name", choice(x, alt("A", x, x, x)), true)
	checkMay(t, "arities", app(con("A"), con("A", x)), true)
	checkMay(t, "what is bound twice", lam("x", lam("x", let("x", x, x))), true)
}

// P2.1, May: names.

var (
	goodNames = []string{"x", "z", "a0", "f1", "camelCase", "lets", "le", "i", "inn", "caseof", "lET", name16, "a234567890123456"}
	goodCons  = []string{"A", "Z", "Cons", "Nil", "True", "X1y2", "LET", "Let", "Of", con16, "A234567890123456"}
	goodSigns = []string{"+", "-", "*", "/", "<", "=="}
	noNames   = []string{
		"let", "letrec", "in", "case", "of",
		"->", "\\", ".", "(", ")", "=", "{", "}", "|", ">", "<=", ">=", "!=", "%", "++", "--", "===", "= =", "+ ", " +", " ==", "==\n",
		"0", "1", "12", "0x", "1a", "1A", "01",
		" ", "\n", "\t", " x", "x ", "x\n", "\tx", "x y", "xY z", " A", "A ", "A\n", "A B", "x.", "x+", "A.",
		"_", "x_y", "A_B", "x'", "a-b", "é", "xé", "É", "λ", "\x00", "x\x00", "A\x00", "\xff", "x\xff", "A\xff", "１", "Ａ",
		name16 + "q", con16 + "Q", "a2345678901234567", strings.Repeat("a", 100000), strings.Repeat("A", 100000), strings.Repeat("x ", 100000),
		name16 + " ", " " + name16, con16 + " ",
	}
)

// named are trees of each kind, whose whole one, or whose alternative, has that Name.
func named(s string) map[int]api.Tree {
	all := map[int]api.Tree{}
	one := number(1)
	for kind, l := range map[int][]api.Tree{1: nil, 2: {one}, 3: {one, one}, 4: {one, one}, 5: {one, one}, 6: nil, 7: {one, alt("A", one)}, 9: nil, 10: {one, one}} {
		all[kind] = api.Tree{Kind: kind, Name: s, L: l}
	}
	all[8] = choice(one, alt("A", one), alt(s, variable("x"), one))
	return all
}

func TestNames(t *testing.T) {
	check := func(names []string, kinds ...int) {
		t.Helper()
		for _, s := range names {
			for kind, x := range named(s) {
				checkMay(t, "names", x, slices.Contains(kinds, kind))
			}
		}
	}
	check(goodNames, 1, 2, 4, 5)
	check(goodCons, 6, 8)
	check(goodSigns, 10)
	check([]string{""}, 3, 7, 9)
	check(noNames)
}

func TestNamesOfAnAlternativesVariables(t *testing.T) {
	for _, s := range slices.Concat(goodNames, goodCons, goodSigns, noNames, []string{""}) {
		want := slices.Contains(goodNames, s)
		checkMay(t, "first", choice(number(1), alt("A", variable(s), variable("y"), number(1))), want)
		checkMay(t, "last", choice(number(1), alt("A", variable("y"), variable(s), number(1))), want)
	}
}

// P2.1, May: N, and At.

func TestNumbers(t *testing.T) {
	for _, n := range []int{math.MinInt, -great, -1, 0, 1, 2, 8, 9, great - 1, great, great + 1, math.MaxInt} {
		checkIn(t, "number", number(n), 0 <= n && n <= great)
		for what, x := range ordinary() {
			// Those of a number are told above.
			if what != "number" {
				x.N = n
				checkIn(t, what, x, n == 0)
			}
		}
		y := variable("y")
		y.N = n
		checkMay(t, "variable", choice(number(1), alt("A", y, number(1))), n == 0)
	}
}

func TestPlaces(t *testing.T) {
	for _, n := range []int{math.MinInt, -1, 0, 1, 4096, math.MaxInt} {
		for what, x := range ordinary() {
			x.At = n
			checkIn(t, what, x, n >= 0)
		}
		y, a := variable("y"), alt("A", variable("y"), number(1))
		y.At, a.At = n, n
		checkMay(t, "of a variable", choice(number(1), alt("A", y, number(1))), n >= 0)
		checkMay(t, "of an alternative", choice(number(1), a), n >= 0)
		checkMay(t, "of the last one", choice(number(1), alt("A", number(1)), a), n >= 0)
	}
	// Places need not rise.
	x, one := variable("x"), number(1)
	x.At, one.At = 5, 3
	checkMay(t, "places", app(x, one), true)
}

// P2.1, May: parts.

func TestNumbersOfParts(t *testing.T) {
	one, a := number(1), alt("A", number(1))
	for n := range 30 {
		l := many(n, one)
		checkIn(t, "variable", api.Tree{Kind: 1, Name: "x", L: l}, n == 0)
		checkIn(t, "function", api.Tree{Kind: 2, Name: "x", L: l}, n == 1)
		checkIn(t, "applied", api.Tree{Kind: 3, L: l}, n == 2)
		checkIn(t, "let", api.Tree{Kind: 4, Name: "x", L: l}, n == 2)
		checkIn(t, "letrec", api.Tree{Kind: 5, Name: "x", L: l}, n == 2)
		checkIn(t, "con", api.Tree{Kind: 6, Name: "A", L: l}, n <= 8)
		checkIn(t, "case", choice(one, many(n, a)...), 1 <= n && n <= 8)
		checkIn(t, "number", api.Tree{Kind: 9, L: l}, n == 0)
		checkIn(t, "operator", api.Tree{Kind: 10, Name: "+", L: l}, n == 2)
	}
	checkIn(t, "case of nothing", api.Tree{Kind: 7}, false)
}

func TestNumbersOfVariables(t *testing.T) {
	for parts := range 12 {
		for _, n := range []int{math.MinInt, -2, -1, 0, 1, 2, 3, 4, 5, 6, 7, 8, 9, 10, 11, math.MaxInt} {
			l := many(parts, variable("x"))
			checkMay(t, "alternative", choice(number(1), api.Tree{Kind: 8, Name: "A", N: n, L: l}), 0 <= n && n <= 8 && parts == n+1)
		}
	}
}

func TestEmptyListsAndNilOnes(t *testing.T) {
	none := []api.Tree{}
	checkIn(t, "variable", api.Tree{Kind: 1, Name: "x", L: none}, true)
	checkIn(t, "function", api.Tree{Kind: 2, Name: "x", L: none}, false)
	checkIn(t, "applied", api.Tree{Kind: 3, L: none}, false)
	checkIn(t, "let", api.Tree{Kind: 4, Name: "x", L: none}, false)
	checkIn(t, "letrec", api.Tree{Kind: 5, Name: "x", L: none}, false)
	checkIn(t, "con", api.Tree{Kind: 6, Name: "A", L: none}, true)
	checkIn(t, "case", api.Tree{Kind: 7, L: none}, false)
	checkIn(t, "number", api.Tree{Kind: 9, L: none}, true)
	checkIn(t, "operator", api.Tree{Kind: 10, Name: "+", L: none}, false)
	checkMay(t, "alternative", choice(number(1), api.Tree{Kind: 8, Name: "A", L: none}), false)
	checkMay(t, "alternative", choice(number(1), api.Tree{Kind: 8, Name: "A"}), false)
}

// P2.1, May: kinds, and where alternatives stand.

func TestWrongKinds(t *testing.T) {
	for _, kind := range []int{math.MinInt, -1, 0, 11, 12, 256, math.MaxInt} {
		checkIn(t, "no kind", api.Tree{Kind: kind}, false)
		for what, x := range ordinary() {
			x.Kind = kind
			checkIn(t, "no kind of "+what, x, false)
		}
		checkMay(t, "no kind of an alternative", choice(number(1), api.Tree{Kind: kind, Name: "A", L: many(1, number(1))}), false)
	}
	checkIn(t, "nothing", api.Tree{}, false)
}

func TestAlternativesOutOfACase(t *testing.T) {
	for _, a := range []api.Tree{alt("A", number(1)), alt("Cons", variable("h"), variable("t"), variable("h"))} {
		checkIn(t, "alternative", a, false)
	}
	one, a := number(1), alt("A", number(1))
	checkMay(t, "for a variable", choice(one, alt("A", a, one)), false)
	checkMay(t, "first", choice(a, one), false)
	checkMay(t, "first and behind", choice(a, a), false)
}

func TestOthersWhereAlternativesStand(t *testing.T) {
	one, a := number(1), alt("A", number(1))
	for what, x := range ordinary() {
		checkMay(t, what+" for the only one", choice(one, x), false)
		checkMay(t, what+" for the first one", choice(one, x, a), false)
		checkMay(t, what+" for the last one", choice(one, a, a, x), false)
		isVariable := what == "variable"
		checkMay(t, what+" for the first variable", choice(one, alt("A", x, variable("y"), one)), isVariable)
		checkMay(t, what+" for the last variable", choice(one, alt("A", variable("y"), x, one)), isVariable)
	}
	y := variable("y")
	y.L = many(1, one)
	checkMay(t, "variable with a part", choice(one, alt("A", y, one)), false)
}

// chain is that many functions around x.
func chain(n int, x api.Tree) api.Tree {
	for range n {
		x = lam("x", x)
	}
	return x
}

func TestDeepTreesMayBe(t *testing.T) {
	checkMay(t, "deep", chain(levels-1, number(great)), true)
	checkMay(t, "deep", chain(levels-1, number(great+1)), false)
	if n := tree.Depth(chain(levels-1, number(1))); n != levels {
		t.Error(n)
	}
	if n := tree.Size(chain(levels-1, number(1))); n != levels {
		t.Error(n)
	}
}

// P2.1, May, held against a reading that is made otherwise: kind by kind, names byte by byte.

func isRun(s string, from, to byte) bool {
	if len(s) < 1 || len(s) > 16 || s[0] < from || s[0] > to {
		return false
	}
	for _, c := range []byte(s) {
		if !strings.ContainsRune("abcdefghijklmnopqrstuvwxyzABCDEFGHIJKLMNOPQRSTUVWXYZ0123456789", rune(c)) {
			return false
		}
	}
	return !slices.Contains([]string{"let", "letrec", "in", "case", "of"}, s)
}

func isExpr(x api.Tree) bool { return x.Kind != 8 && isTree(x) }

func isTree(x api.Tree) bool {
	exprs := !slices.ContainsFunc(x.L, func(p api.Tree) bool { return !isExpr(p) })
	n, name, con := len(x.L), isRun(x.Name, 'a', 'z'), isRun(x.Name, 'A', 'Z')
	if x.At < 0 || x.N != 0 && x.Kind != 8 && x.Kind != 9 {
		return false
	}
	switch x.Kind {
	case 1:
		return name && n == 0
	case 2:
		return name && n == 1 && exprs
	case 3:
		return x.Name == "" && n == 2 && exprs
	case 4, 5:
		return name && n == 2 && exprs
	case 6:
		return con && n <= 8 && exprs
	case 7:
		return x.Name == "" && 2 <= n && n <= 9 && isExpr(x.L[0]) &&
			!slices.ContainsFunc(x.L[1:], func(p api.Tree) bool { return p.Kind != 8 || !isTree(p) })
	case 8:
		return con && 0 <= x.N && x.N <= 8 && n == x.N+1 && isExpr(x.L[n-1]) &&
			!slices.ContainsFunc(x.L[:n-1], func(p api.Tree) bool { return p.Kind != 1 || !isTree(p) })
	case 9:
		return x.Name == "" && n == 0 && 0 <= x.N && x.N < 1e18
	case 10:
		return strings.Contains(" + - * / < == ", " "+x.Name+" ") && x.Name != "" && n == 2 && exprs
	}
	return false
}

func pick[T any](r *rand.Rand, l ...T) T { return l[r.Intn(len(l))] }

// likely is a tree that may be, more often than not.
func likely(r *rand.Rand, deep int) api.Tree {
	x := api.Tree{Kind: pick(r, 1, 2, 3, 4, 5, 6, 7, 9, 10), At: r.Intn(3)}
	if deep == 0 {
		x.Kind = pick(r, 1, 6, 9)
	}
	parts := []int{0, 0, 1, 2, 2, 2, r.Intn(3), 1, 0, 0, 2}[x.Kind]
	switch x.Kind {
	case 1, 2, 4, 5:
		x.Name = pick(r, "x", "y")
	case 6:
		x.Name = pick(r, "A", "B")
	case 9:
		x.N = r.Intn(2)
	case 10:
		x.Name = pick(r, goodSigns...)
	}
	for range parts {
		if deep > 0 {
			x.L = append(x.L, likely(r, deep-1))
		}
	}
	if x.Kind == 7 {
		for range 1 + r.Intn(2) {
			x.L = append(x.L, likelyAlt(r, deep-1))
		}
	}
	return x
}

func likelyAlt(r *rand.Rand, deep int) api.Tree {
	x := api.Tree{Kind: 8, Name: pick(r, "A", "B"), N: r.Intn(3)}
	for range x.N {
		x.L = append(x.L, api.Tree{Kind: 1, Name: pick(r, "x", "y"), At: r.Intn(3)})
	}
	x.L = append(x.L, likely(r, max(deep, 0)))
	return x
}

// harm changes one thing of x, or of one of its parts.
func harm(r *rand.Rand, x *api.Tree) {
	if len(x.L) > 0 && r.Intn(3) > 0 {
		harm(r, &x.L[r.Intn(len(x.L))])
		return
	}
	switch r.Intn(6) {
	case 0:
		x.Kind = r.Intn(13) - 1
	case 1:
		x.Name = pick(r, "", "x", "let", "A", "+", "1", "=", " x")
	case 2:
		x.N = pick(r, -1, 0, 1, 2, 3, great, great+1)
	case 3:
		x.At = pick(r, -1, 0, 1)
	case 4:
		if len(x.L) > 0 {
			x.L = x.L[:len(x.L)-1]
		}
	case 5:
		x.L = append(x.L, pick(r, variable("x"), number(1), alt("A", number(1)), alt("A", variable("x"), number(1))))
	}
}

func TestHarmedTrees(t *testing.T) {
	r := rand.New(rand.NewSource(1))
	count := map[bool]int{}
	for range 50000 {
		x := likely(r, r.Intn(4))
		checkMay(t, "likely", x, true)
		harm(r, &x)
		want := isExpr(x)
		count[want]++
		checkMay(t, "harmed", x, want)
	}
	if count[true] < 5000 || count[false] < 5000 {
		t.Error("too few of a sort", count)
	}
}

// P2.1, Depth and Size.

func TestDepthAndSize(t *testing.T) {
	one := number(1)
	for _, c := range []struct {
		x           api.Tree
		depth, size int
	}{
		{one, 1, 1},
		{variable("x"), 1, 1},
		{con("Nil"), 1, 1},
		{api.Tree{Kind: 6, Name: "Nil", L: []api.Tree{}}, 1, 1},
		{lam("x", one), 2, 2},
		{app(one, one), 2, 3},
		{let("x", lam("x", one), one), 3, 4},
		{rec("x", one, lam("x", one)), 3, 4},
		{con("A", many(8, one)...), 2, 9},
		{con("A", one, lam("x", lam("x", one)), app(one, one)), 4, 8},
		{choice(one, alt("A", one)), 3, 4},
		{choice(one, alt("A", one), alt("B", variable("x"), variable("y"), op("+", one, one))), 4, 10},
		{op("-", app(one, one), app(one, app(one, one))), 4, 9},
		// Of trees that may not be, too.
		{api.Tree{}, 1, 1},
		{api.Tree{Kind: -1, N: -5, L: many(3, api.Tree{})}, 2, 4},
		{alt("A", variable("x"), one), 2, 3},
		{api.Tree{Kind: 1, Name: "?", At: -1, L: []api.Tree{lam("", lam("", api.Tree{Kind: 99}))}}, 4, 4},
		{api.Tree{L: many(100000, api.Tree{L: many(1, one)})}, 3, 200001},
	} {
		if d, n := tree.Depth(c.x), tree.Size(c.x); d != c.depth || n != c.size {
			t.Errorf("%v: Depth %d, Size %d; want %d, %d", c.x, d, n, c.depth, c.size)
		}
	}
}

// P2.2, Same.

func checkSame(t *testing.T, a, b api.Tree, want bool) {
	t.Helper()
	if tree.Same(a, b) != want || tree.Same(b, a) != want {
		t.Errorf("Same(%v, %v): %v, %v; want %v", a, b, tree.Same(a, b), tree.Same(b, a), want)
	}
}

func TestSame(t *testing.T) {
	for a, x := range ordinary() {
		checkSame(t, x, at(x, 0), true)
		checkSame(t, x, at(x, 3), true)
		checkSame(t, at(x, -1), at(x, math.MaxInt), true)
		for b, y := range ordinary() {
			checkSame(t, x, y, a == b)
		}
	}
}

func TestWhatIsOther(t *testing.T) {
	one, two := number(1), number(2)
	whole := api.Tree{Kind: 6, Name: "A", N: 4, At: 5, L: []api.Tree{one, two}}
	for _, change := range []func(x *api.Tree){
		func(x *api.Tree) { x.Kind = 3 },
		func(x *api.Tree) { x.Kind = -6 },
		func(x *api.Tree) { x.Name = "" },
		func(x *api.Tree) { x.Name = "a" },
		func(x *api.Tree) { x.Name = "A " },
		func(x *api.Tree) { x.N = 5 },
		func(x *api.Tree) { x.N = -4 },
		func(x *api.Tree) { x.L = nil },
		func(x *api.Tree) { x.L = []api.Tree{one} },
		func(x *api.Tree) { x.L = []api.Tree{two, one} },
		func(x *api.Tree) { x.L = []api.Tree{one, one} },
		func(x *api.Tree) { x.L = []api.Tree{two, two} },
		func(x *api.Tree) { x.L = []api.Tree{one, two, two} },
		func(x *api.Tree) { x.L = []api.Tree{one, two, {}} },
		func(x *api.Tree) { x.L = []api.Tree{one, lam("x", two)} },
	} {
		other := whole
		change(&other)
		checkSame(t, whole, other, false)
		checkSame(t, lam("x", whole), lam("x", other), false)
		checkSame(t, app(one, whole), app(one, other), false)
		checkSame(t, app(whole, one), app(other, one), false)
		checkSame(t, choice(one, alt("A", lam("x", whole))), choice(one, alt("A", lam("x", other))), false)
	}
	checkSame(t, chain(levels, one), chain(levels, one), true)
	checkSame(t, chain(levels, one), chain(levels, two), false)
	checkSame(t, chain(levels, one), chain(levels-1, one), false)
	checkSame(t, api.Tree{}, api.Tree{}, true)
	checkSame(t, api.Tree{}, api.Tree{At: -7}, true)
}

func TestSameOfEmptyListsAndNilOnes(t *testing.T) {
	a, b := con("A"), con("A")
	a.L, b.L = nil, []api.Tree{}
	checkSame(t, a, b, true)
	checkSame(t, lam("x", a), lam("x", b), true)
	c := con("A")
	c.L = make([]api.Tree, 0, 9)
	checkSame(t, a, c, true)
}

// P2.2, Bare.

// plain is t as it is to be bare, empty lists nil: what is the same is equal then.
func plain(t api.Tree) api.Tree {
	t.At = 0
	l := t.L
	t.L = nil
	for _, p := range l {
		t.L = append(t.L, plain(p))
	}
	return t
}

func checkBare(t *testing.T, x, want api.Tree) {
	t.Helper()
	got := tree.Bare(x)
	if !reflect.DeepEqual(noNils(got), noNils(want)) {
		t.Errorf("Bare(%v): %v; want %v", x, got, want)
	}
}

// noNils is t with empty lists for nil ones: which of them an answer has is left open.
func noNils(t api.Tree) api.Tree {
	l := make([]api.Tree, 0, len(t.L))
	for _, p := range t.L {
		l = append(l, noNils(p))
	}
	t.L = l
	return t
}

func TestBare(t *testing.T) {
	for _, x := range ordinary() {
		checkBare(t, x, x)
		checkBare(t, at(x, 7), x)
		checkBare(t, at(x, -7), x)
	}
	// Each place by itself, and all else as it is, whatever it is.
	checkBare(t, api.Tree{Kind: 1, Name: "x", At: 4}, api.Tree{Kind: 1, Name: "x"})
	checkBare(t,
		api.Tree{Kind: 99, Name: "?", N: -3, At: -1, L: []api.Tree{{Kind: -1, Name: "\xff", N: 8, At: 2}, {At: 3, L: []api.Tree{{At: math.MinInt}}}}},
		api.Tree{Kind: 99, Name: "?", N: -3, L: []api.Tree{{Kind: -1, Name: "\xff", N: 8}, {L: []api.Tree{{}}}}})
	checkBare(t, api.Tree{At: 9, L: []api.Tree{}}, api.Tree{})
	checkBare(t, api.Tree{L: many(100000, api.Tree{At: 1})}, api.Tree{L: many(100000, api.Tree{})})
	x := tree.Bare(at(chain(levels, number(1)), 5))
	for n := 0; ; n++ {
		if x.At != 0 {
			t.Fatal(n, x.At)
		}
		if len(x.L) == 0 {
			break
		}
		x = x.L[0]
	}
}

func spoil(x *api.Tree) {
	for i := range x.L {
		spoil(&x.L[i])
	}
	*x = api.Tree{Kind: -9, Name: "spoilt", N: -9, At: -9}
}

func TestBareSharesNothing(t *testing.T) {
	for what, x := range ordinary() {
		x = at(x, 6)
		got := tree.Bare(x)
		if !reflect.DeepEqual(x, at(ordinary()[what], 6)) {
			t.Errorf("Bare changed %s: %v", what, x)
		}
		spoil(&got)
		if !reflect.DeepEqual(x, at(ordinary()[what], 6)) {
			t.Errorf("Bare of %s shares with it: %v", what, x)
		}
	}
	// Parts that are one list in the argument are two in the answer.
	two := con("A", number(1))
	got := tree.Bare(app(two, two))
	got.L[0].L[0].N = 5
	if got.L[1].L[0].N != 1 {
		t.Error(got)
	}
	// Behind a list's end nothing is written.
	l := []api.Tree{number(1), number(2), number(3)}
	x := api.Tree{Kind: 6, Name: "A", L: l[:2]}
	got = tree.Bare(x)
	_ = append(got.L, number(9))
	if l[2].N != 3 {
		t.Error(l)
	}
}

func TestArgumentsAreLeft(t *testing.T) {
	for what, x := range ordinary() {
		x = at(x, 6)
		want := at(ordinary()[what], 6)
		tree.May(x)
		tree.Depth(x)
		tree.Size(x)
		tree.Same(x, x)
		tree.Same(x, number(1))
		if !reflect.DeepEqual(x, want) {
			t.Errorf("%s was changed: %v", what, x)
		}
	}
}

// P2.3.

func checkSameAsBare(t *testing.T, a, b api.Tree) bool {
	t.Helper()
	want := reflect.DeepEqual(noNils(tree.Bare(a)), noNils(tree.Bare(b)))
	checkSame(t, a, b, want)
	checkSame(t, a, tree.Bare(b), want)
	if reflect.DeepEqual(plain(a), plain(b)) != want {
		t.Errorf("Bare of %v and of %v", a, b)
	}
	return want
}

// few has few trees, that may be or not: two of them are the same often enough.
func few(r *rand.Rand, deep int) api.Tree {
	x := api.Tree{Kind: r.Intn(2), Name: pick(r, "", "", "x"), N: r.Intn(2), At: r.Intn(3)}
	for range r.Intn(3) {
		if deep > 0 {
			x.L = append(x.L, few(r, deep-1))
		}
	}
	return x
}

func TestSameJustIfBareNothingIsOther(t *testing.T) {
	r := rand.New(rand.NewSource(2))
	count := map[bool]int{}
	for range 50000 {
		count[checkSameAsBare(t, few(r, r.Intn(3)), few(r, r.Intn(3)))]++
		a := likely(r, r.Intn(4))
		b := at(a, r.Intn(9))
		checkSameAsBare(t, a, b)
		harm(r, &b)
		count[checkSameAsBare(t, a, b)]++
	}
	if count[true] < 5000 || count[false] < 5000 {
		t.Error("too few of a sort", count)
	}
}

func TestWhatIsBare(t *testing.T) {
	r := rand.New(rand.NewSource(3))
	for range 10000 {
		x := likely(r, r.Intn(5))
		b := tree.Bare(x)
		checkSame(t, x, b, true)
		checkBare(t, b, b)
		if !tree.May(b) || tree.Depth(b) != tree.Depth(x) || tree.Size(b) != tree.Size(x) {
			t.Errorf("%v, bare: %v", x, b)
		}
		// Places alone can hinder a tree.
		if tree.May(at(x, -1)) || !tree.May(tree.Bare(at(x, -1))) {
			t.Errorf("%v, further back", x)
		}
	}
}
