package use_test

import (
	"fmt"
	"math"
	"math/big"
	"math/rand"
	"slices"
	"strings"
	"sync"
	"testing"

	"gossamer/api"
	"gossamer/core"
	"gossamer/parse"
	"gossamer/subst"
	"gossamer/sugar"
	"gossamer/use"
)

const (
	levels = 1 << 16
	fewest = math.MinInt
	most   = math.MaxInt
)

// Kinds are written as numbers: the chapters tell them so.

func variable(n int) api.Term              { return api.Term{Kind: 1, N: n} }
func lam(b api.Term) api.Term              { return api.Term{Kind: 2, L: []api.Term{b}} }
func app(f, a api.Term) api.Term           { return api.Term{Kind: 3, L: []api.Term{f, a}} }
func con(s string, l ...api.Term) api.Term { return api.Term{Kind: 4, Name: s, L: l} }
func number(n int) api.Term                { return api.Term{Kind: 7, N: n} }
func op(s string, a, b api.Term) api.Term  { return api.Term{Kind: 8, Name: s, L: []api.Term{a, b}} }
func failed() api.Term                     { return api.Term{Kind: 9} }

func choice(x api.Term, alts ...api.Term) api.Term {
	return api.Term{Kind: 5, L: append([]api.Term{x}, alts...)}
}

func alt(s string, n int, b api.Term) api.Term {
	return api.Term{Kind: 6, Name: s, N: n, L: []api.Term{b}}
}

// vars is a constructor of variables.
func vars(l ...int) api.Term {
	x := api.Term{Kind: 4, Name: "V"}
	for _, n := range l {
		x.L = append(x.L, variable(n))
	}
	return x
}

// used is a constructor of variables: the first one of these numbers times #0, the next one times #1, and so on.
func used(times ...int) api.Term {
	var l []int
	for i, n := range times {
		l = append(l, slices.Repeat([]int{i}, n)...)
	}
	return vars(l...)
}

// chain is that many functions around x.
func chain(n int, x api.Term) api.Term {
	for range n {
		x = lam(x)
	}
	return x
}

func pick[T any](r *rand.Rand, l ...T) T { return l[r.Intn(len(l))] }

// told is x as a failure tells it: no more than its first bytes.
func told(x any) string {
	s := fmt.Sprintf("%+q", fmt.Sprint(x))
	if len(s) > 400 {
		s = s[:400] + ".."
	}
	return s
}

// The promises, read otherwise.

// turned is the difference of a and b, that turns round as numbers of 64 bits do.
func turned(a, b int) int {
	d := new(big.Int).Sub(big.NewInt(int64(a)), big.NewInt(int64(b)))
	whole := new(big.Int).Lsh(big.NewInt(1), 64)
	d.Mod(d, whole)
	if d.Bit(63) == 1 {
		d.Sub(d, whole)
	}
	return int(d.Int64())
}

// readFree keeps a list of what is to be gone through, and a set of what is free.
func readFree(x api.Term) []int {
	type spot struct {
		t api.Term
		b int
	}
	found := map[int]bool{}
	for todo := []spot{{x, 0}}; len(todo) > 0; {
		s := todo[len(todo)-1]
		todo = todo[:len(todo)-1]
		if k := turned(s.t.N, s.b); s.t.Kind == 1 && k >= 0 {
			found[k] = true
		}
		b := s.b
		switch s.t.Kind {
		case 2:
			b = turned(b, -1)
		case 6:
			b = turned(b, turned(0, s.t.N))
		}
		for _, p := range s.t.L {
			todo = append(todo, spot{p, b})
		}
	}
	var l []int
	for k := range found {
		l = append(l, k)
	}
	slices.Sort(l)
	return l
}

// readOf asks subst.Uses, binder by binder.
func readOf(x api.Term) []int {
	var l []int
	if len(x.L) > 0 && x.Kind == 2 {
		l = append(l, subst.Uses(x.L[0], 0))
	}
	if len(x.L) > 0 && x.Kind == 6 {
		for i := range max(0, min(8, x.N)) {
			l = append(l, subst.Uses(x.L[0], x.N-1-i))
		}
	}
	for _, p := range x.L {
		l = append(l, readOf(p)...)
	}
	return l
}

// Checks.

func checkFree(t *testing.T, x api.Term, want ...int) {
	t.Helper()
	if got := use.Free(x); !slices.Equal(got, want) {
		t.Errorf("Free(%s): %s; want %s", told(x), told(got), told(want))
	}
}

func checkOf(t *testing.T, x api.Term, want ...int) {
	t.Helper()
	if got := use.Of(x); !slices.Equal(got, want) {
		t.Errorf("Of(%s): %s; want %s", told(x), told(got), told(want))
	}
}

// checkTold asks for what is told of all uses together.
func checkTold(t *testing.T, x api.Term, affine bool, fans, drops int) {
	t.Helper()
	if got := use.Affine(x); got != affine {
		t.Errorf("Affine(%s): %v", told(x), got)
	}
	if got := use.Fans(x); got != fans {
		t.Errorf("Fans(%s): %d; want %d", told(x), got, fans)
	}
	if got := use.Drops(x); got != drops {
		t.Errorf("Drops(%s): %d; want %d", told(x), got, drops)
	}
}

// checkUses asks for all that is told of binders, of which these are the uses.
func checkUses(t *testing.T, x api.Term, want ...int) {
	t.Helper()
	checkOf(t, x, want...)
	fans, drops := 0, 0
	for _, n := range want {
		switch n {
		case 0:
			drops++
		default:
			fans += n - 1
		}
	}
	checkTold(t, x, fans == 0, fans, drops)
}

// checkRead holds all that is told of x against the promises' reading.
func checkRead(t *testing.T, x api.Term) {
	t.Helper()
	checkFree(t, x, readFree(x)...)
	checkUses(t, x, readOf(x)...)
}

// P11.1, Free.

func TestFreeOfEachKind(t *testing.T) {
	checkFree(t, variable(0), 0)
	checkFree(t, variable(3), 3)
	checkFree(t, number(3))
	checkFree(t, failed())
	checkFree(t, con("Nil"))
	checkFree(t, app(variable(2), variable(0)), 0, 2)
	checkFree(t, app(number(1), variable(4)), 4)
	checkFree(t, op("-", variable(1), variable(7)), 1, 7)
	checkFree(t, con("P", variable(1), number(9), variable(3), variable(2)), 1, 2, 3)
	checkFree(t, lam(variable(0)))
	checkFree(t, lam(variable(1)), 0)
	checkFree(t, lam(vars(0, 1, 2, 5)), 0, 1, 4)
	checkFree(t, lam(lam(vars(0, 1, 2, 3))), 0, 1)
	// What is looked at is not within the variables of the alternatives, nor is one alternative within those of another.
	checkFree(t, choice(vars(0, 9), alt("A", 0, variable(2)), alt("B", 2, vars(0, 1, 5)), alt("C", 8, vars(7, 12))), 0, 2, 3, 4, 9)
	checkFree(t, alt("A", 0, variable(0)), 0)
	checkFree(t, alt("B", 3, vars(0, 1, 2)))
	checkFree(t, alt("B", 8, vars(7, 8, 10)), 0, 2)
	checkFree(t, lam(app(lam(variable(2)), variable(2))), 0, 1)
	checkFree(t, lam(choice(vars(0, 1), alt("A", 3, lam(vars(0, 3, 4, 5, 6))))), 0, 1)
}

func TestFreeRisesAndTellsEachOnce(t *testing.T) {
	checkFree(t, vars(5, 3, 3, 0, 5, 11, 1, 0), 0, 1, 3, 5, 11)
	checkFree(t, vars(4, 4, 4), 4)
	// One variable is told by unlike numbers within unlike binders, unlike ones by one number.
	checkFree(t, con("P", variable(1), lam(variable(2)), lam(lam(variable(3))), alt("A", 5, variable(6))), 1)
	checkFree(t, con("P", lam(lam(variable(9))), variable(9), alt("A", 5, variable(9)), lam(variable(9))), 4, 7, 8, 9)
}

func TestFreeWithinSoManyBinders(t *testing.T) {
	for n := range 12 {
		for b := range 12 {
			var want []int
			if n >= b {
				want = []int{n - b}
			}
			checkFree(t, chain(b, variable(n)), want...)
			checkFree(t, alt("A", b, variable(n)), want...)
			checkFree(t, app(number(n), alt("A", b/2, chain(b-b/2, variable(n)))), want...)
		}
	}
}

func TestFreeOfAnyNumbers(t *testing.T) {
	x := vars(fewest, fewest+1, -2, -1, 0, 1, 2, most-1, most)
	checkFree(t, variable(-1))
	checkFree(t, variable(fewest))
	checkFree(t, x, 0, 1, 2, most-1, most)
	// Sums turn round: the least number is the greatest one and 1.
	checkFree(t, lam(x), 0, 1, most-2, most-1, most)
	checkFree(t, lam(lam(x)), 0, most-3, most-2, most-1, most)
	checkFree(t, alt("A", 9, vars(7, 8, 9, 11)), 0, 2)
	checkFree(t, alt("A", most, x), 0, 1, 2, most)
	checkFree(t, alt("A", most, alt("B", most, x)), 0, 1, 2, 3, 4)
	checkFree(t, alt("A", most, alt("B", most, lam(lam(vars(-1, 0, 1))))), 0, 1)
	checkFree(t, alt("A", -1, x), 0, 1, 2, 3, most)
	checkFree(t, alt("A", -3, lam(vars(-4, -3, -2, -1, 0))), 0, 1, 2)
	checkFree(t, alt("A", fewest, x), 0, 1, most-1, most)
}

// P11.1, Of.

func TestUsesOfEachKind(t *testing.T) {
	one := lam(variable(0))
	checkUses(t, variable(0))
	checkUses(t, number(0))
	checkUses(t, failed())
	checkUses(t, con("Nil"))
	checkUses(t, one, 1)
	checkUses(t, lam(number(0)), 0)
	checkUses(t, lam(variable(1)), 0)
	checkUses(t, lam(used(2)), 2)
	checkUses(t, lam(app(variable(0), op("+", variable(0), con("A", variable(0))))), 3)
	checkUses(t, lam(lam(app(variable(1), variable(1)))), 2, 0)
	checkUses(t, chain(4, used(2, 0, 1, 3, 5)), 3, 1, 0, 2)
	checkUses(t, app(lam(used(2)), lam(used(3))), 2, 3)
	checkUses(t, op("*", lam(used(3)), lam(used(2))), 3, 2)
	checkUses(t, con("P", lam(used(4)), number(1), lam(used(0)), lam(used(2))), 4, 0, 2)
	checkUses(t, choice(lam(used(2)), alt("A", 0, lam(used(3))), alt("B", 1, app(variable(0), lam(used(4))))), 2, 3, 1, 4)
	checkUses(t, alt("A", 0, vars(0, 1)))
	checkUses(t, alt("A", 1, vars(0, 1)), 1)
	checkUses(t, alt("A", 3, vars(0, 0, 0, 1, 3)), 0, 1, 3)
	checkUses(t, alt("A", 8, used(8, 7, 6, 5, 4, 3, 2, 1, 9)), 1, 2, 3, 4, 5, 6, 7, 8)
}

func TestBindersAreTheirTermsThenTheirParts(t *testing.T) {
	// A binder is ahead of what is within it, and that ahead of what stands behind.
	checkUses(t, lam(app(lam(used(2, 3)), lam(used(4, 1)))), 4, 2, 4)
	x := app(
		lam(lam(used(1, 2))),
		choice(lam(used(3)), alt("A", 2, con("P", lam(used(0, 5, 6)), used(1))), alt("B", 1, lam(lam(used(8, 9, 10))))))
	checkUses(t, x, 2, 1, 3, 6, 6, 0, 10, 9, 8)
	checkUses(t, con("P", x, x), 2, 1, 3, 6, 6, 0, 10, 9, 8, 2, 1, 3, 6, 6, 0, 10, 9, 8)
	checkUses(t, lam(x), 0, 2, 1, 3, 6, 6, 0, 10, 9, 8)
}

func TestUsesAreOfTheirOwnBinder(t *testing.T) {
	// Variables of one number are of unlike binders.
	checkUses(t, lam(app(variable(0), lam(app(variable(0), lam(variable(0)))))), 1, 1, 1)
	checkUses(t, lam(app(lam(variable(1)), lam(variable(1)))), 2, 0, 0)
	// Of binders beside one another none has the other's variables.
	checkUses(t, con("P", lam(used(1)), lam(used(0)), lam(used(2)), lam(used(1))), 1, 0, 2, 1)
	checkUses(t, con("P", alt("A", 2, used(1, 2)), lam(used(4, 5)), alt("B", 2, used(3, 0))), 2, 1, 4, 0, 3)
	// What is free, ahead of a binder, behind it or within it, is nobody's.
	checkUses(t, con("P", used(2, 2), lam(used(1, 2, 2)), used(2, 2), alt("A", 2, used(1, 0, 3, 4))), 1, 0, 1)
	checkUses(t, app(lam(lam(vars(2, 3, 9))), vars(-1, 0, 1)), 0, 0)
}

func TestUsesOfEachVariable(t *testing.T) {
	for n := range 9 {
		for k := range n + 2 {
			for times := range 4 {
				times := slices.Concat(make([]int, k), []int{times})
				want := append(times, make([]int, n+2)...)[:n]
				slices.Reverse(want)
				checkUses(t, alt("A", n, used(times...)), want...)
				checkUses(t, chain(n, used(times...)), want...)
			}
		}
	}
}

// P11.2.

func TestAffine(t *testing.T) {
	affine := func(x api.Term, want bool) {
		t.Helper()
		if use.Affine(x) != want {
			t.Errorf("Affine(%s): %v", told(x), !want)
		}
	}
	affine(number(1), true)
	affine(vars(0, 0, 0), true)
	affine(lam(number(1)), true)
	affine(lam(variable(0)), true)
	affine(lam(vars(0, 1, 1)), true)
	affine(lam(vars(0, 0)), false)
	affine(alt("A", 2, vars(0, 1, 2, 2)), true)
	affine(alt("A", 2, vars(0, 0)), false)
	affine(alt("A", 2, vars(1, 1)), false)
	affine(alt("A", 8, vars(0, 1, 2, 3, 4, 5, 6, 7, 7)), false)
	// Wherever it is, one is enough; more of them, none, and ones do not change that.
	affine(chain(5, used(1, 1, 0, 1, 1)), true)
	for i := range 5 {
		times := []int{1, 1, 0, 1, 1}
		times[i] = 2
		affine(chain(5, used(times...)), false)
		parts := []api.Term{lam(used(1)), lam(used(0)), lam(used(1)), lam(used(0)), lam(used(1))}
		affine(con("P", parts...), true)
		parts[i] = lam(used(3))
		affine(con("P", parts...), false)
	}
	affine(chain(3, used(2, 2, 2)), false)
	affine(con("P", lam(used(2)), lam(used(2)), lam(lam(used(2, 2)))), false)
}

func TestFansAndDrops(t *testing.T) {
	checkTold(t, number(1), true, 0, 0)
	checkTold(t, vars(0, 0), true, 0, 0)
	checkTold(t, lam(variable(0)), true, 0, 0)
	checkTold(t, lam(number(0)), true, 0, 1)
	checkTold(t, lam(used(2)), false, 1, 0)
	checkTold(t, lam(used(8)), false, 7, 0)
	checkTold(t, lam(lam(app(variable(1), variable(1)))), false, 1, 1)
	checkTold(t, chain(3, used(1, 1, 1)), true, 0, 0)
	// No drop makes up for a fan.
	checkTold(t, chain(5, used(0, 3, 0, 2, 0, 9)), false, 3, 3)
	checkTold(t, chain(4, number(1)), true, 0, 4)
	checkTold(t, alt("A", 8, used(0, 1, 2, 3, 0, 1, 2, 3)), false, 6, 2)
	checkTold(t, alt("A", 3, number(1)), true, 0, 3)
	checkTold(t, con("P", lam(used(2)), lam(used(3)), choice(lam(used(0)), alt("A", 1, used(4)))), false, 6, 1)
}

// The program's own terms.

func TestPrograms(t *testing.T) {
	program := func(text string, want ...int) {
		t.Helper()
		x, _, e := parse.Parse(text, 200)
		if e != api.OK {
			t.Fatal(text, e)
		}
		c, _, e := sugar.Core(x)
		if e != api.OK {
			t.Fatal(text, e)
		}
		checkUses(t, c, want...)
		checkFree(t, c)
	}
	program(`1 + 2`)
	program(`\x. x`, 1)
	program(`let x = 2 * 3 in Cons x x`, 2)
	program(`(\x. x x) (\x. x x)`, 2, 2)
	program(`\f. \x. \y. f y (f y x)`, 2, 1, 2)
	program(`let x = 1 in let y = x in x + x + y`, 3, 1)
	program(`case Cons 1 Nil of { Nil -> 0 | Cons x l -> x }`, 1, 0)
	program(`case Cons 1 Nil of { Cons x l -> \y. Cons x (Cons x l) | Nil -> \y. y }`, 2, 1, 0, 1)
	checkUses(t, sugar.Loop(), 2, 2, 2)
	program(`letrec f = \x. f x in f 1`, 1, 2, 2, 2, 1, 1)
}

// Terms that may not be.

func TestBindersWithoutParts(t *testing.T) {
	for _, n := range []int{0, 1, 2, 8, 9, -1, most, fewest} {
		checkUses(t, api.Term{Kind: 2, N: n})
		checkUses(t, api.Term{Kind: 6, N: n, Name: "A"})
		checkFree(t, api.Term{Kind: 2, N: n})
		checkFree(t, api.Term{Kind: 6, N: n, Name: "A"})
		checkUses(t, lam(api.Term{Kind: 6, N: n}), 0)
		checkUses(t, app(api.Term{Kind: 2, N: n}, lam(variable(0))), 1)
	}
}

func TestBindersOfMoreParts(t *testing.T) {
	two := func(kind, n int, l ...api.Term) api.Term { return api.Term{Kind: kind, N: n, L: l} }
	// The first part's uses are counted; the others' binders are told, too, and their variables are within the binder.
	checkUses(t, two(2, 0, used(1), used(3)), 1)
	checkUses(t, two(2, 0, number(1), used(3), used(2)), 0)
	checkUses(t, two(2, 0, used(2), number(1)), 2)
	checkUses(t, two(2, 0, lam(used(2, 3)), lam(used(4, 5)), lam(used(6))), 3, 2, 4, 6)
	checkUses(t, two(6, 2, used(1, 2), used(3, 4)), 2, 1)
	checkUses(t, two(6, 2, lam(used(2, 3, 4)), lam(used(5, 6, 7)), alt("A", 2, used(1, 0, 3, 3))), 4, 3, 2, 5, 0, 1)
	checkUses(t, lam(two(2, 0, used(1, 2), used(3, 4))), 6, 1)
	checkUses(t, two(2, 0, two(2, 0, used(1, 2), used(0, 5)), used(9)), 7, 1)
	checkFree(t, two(2, 0, vars(0, 1), vars(0, 3), lam(vars(1, 4))), 0, 2)
	checkFree(t, two(6, 3, vars(2, 3), vars(0, 6), lam(vars(3, 5))), 0, 1, 3)
	checkFree(t, two(6, 0, number(1), vars(2), vars(1)), 1, 2)
}

func TestAlternativesOfAnyN(t *testing.T) {
	for _, n := range []int{-1, -2, -9, fewest + 1, fewest} {
		checkUses(t, alt("A", n, used(1, 2, 3)))
		checkUses(t, alt("A", n, lam(used(2))), 2)
	}
	// Of more than 8 variables the first 8 are told: the last ones, of the least numbers, are not.
	checkUses(t, alt("A", 9, used(9, 8, 7, 6, 5, 4, 3, 2, 1, 5)), 1, 2, 3, 4, 5, 6, 7, 8)
	checkUses(t, alt("A", 10, used(2, 2, 1)), 0, 0, 0, 0, 0, 0, 0, 1)
	checkUses(t, alt("A", 11, used(2, 2, 2, 0, 2)), 0, 0, 0, 0, 0, 0, 2, 0)
	checkUses(t, alt("A", most, vars(most, most-1, most-2, most-2, most-8, most-9, most-9, 0, 0)), 1, 2, 0, 0, 0, 0, 0, 1)
	checkUses(t, lam(alt("A", most, vars(most, fewest))), 1, 0, 0, 0, 0, 0, 0, 0, 0)
	// Within an alternative of N below 0 there are fewer binders than around it.
	checkUses(t, lam(alt("A", -1, vars(-1, 0, 0))), 1)
	checkUses(t, lam(alt("A", -1, lam(vars(0, 0, 1, -1)))), 2, 2)
	checkUses(t, lam(lam(alt("A", -2, chain(2, used(3, 5))))), 5, 3, 5, 3)
	checkUses(t, lam(con("P", alt("A", -1, lam(variable(0))), variable(0), alt("A", -1, lam(used(2))))), 4, 1, 2)
}

func TestVariablesWithParts(t *testing.T) {
	v := func(n int, l ...api.Term) api.Term { return api.Term{Kind: 1, N: n, Name: "x", L: l} }
	checkFree(t, v(3, variable(1), lam(variable(1))), 0, 1, 3)
	checkFree(t, v(-1, v(2, v(0))), 0, 2)
	checkUses(t, v(3, lam(used(2)), lam(used(1))), 2, 1)
	checkUses(t, lam(v(0, v(0), v(1, v(0), lam(v(0, v(1)))))), 4, 1)
}

func TestOtherKindsBindNothing(t *testing.T) {
	for _, kind := range []int{fewest, -6, -2, -1, 0, 3, 4, 5, 7, 8, 9, 10, 11, 258, 262, most} {
		for _, n := range []int{0, 1, 2, 9, -1, most, fewest} {
			x := api.Term{Kind: kind, N: n, Name: "x", L: []api.Term{vars(0, 2), lam(used(2, 3)), variable(5)}}
			checkFree(t, x, 0, 2, 5)
			checkUses(t, x, 2)
			checkUses(t, lam(x), 4, 2)
		}
	}
	for _, n := range []int{-1, 2, 5, most, fewest} {
		// A function binds one, whatever N it has.
		x := api.Term{Kind: 2, N: n, Name: "x", L: []api.Term{used(2, 3)}}
		checkFree(t, x, 0)
		checkUses(t, x, 2)
	}
	checkFree(t, api.Term{})
	checkUses(t, api.Term{})
}

// Terms of any sort.

// likely is a term that may be, if there are free variables enough.
func likely(r *rand.Rand, deep int) api.Term {
	if deep <= 0 {
		return pick(r, variable(r.Intn(6)), variable(r.Intn(3)), variable(0), number(r.Intn(3)), con(pick(r, "A", "B")), failed())
	}
	part := func() api.Term { return likely(r, deep-1-r.Intn(2)) }
	switch r.Intn(7) {
	case 0, 1:
		return lam(part())
	case 2:
		return app(part(), part())
	case 3:
		x := con("A")
		for range r.Intn(4) {
			x.L = append(x.L, part())
		}
		return x
	case 4:
		return op(pick(r, "+", "=="), part(), part())
	}
	x := choice(part())
	for _, s := range []string{"A", "B", "C"}[:1+r.Intn(3)] {
		x.L = append(x.L, alt(s, r.Intn(4), part()))
	}
	return x
}

// wild is a term that has anything.
func wild(r *rand.Rand, deep int) api.Term {
	x := api.Term{
		Kind: pick(r, 1, 1, 1, 1, 2, 2, 2, 3, 4, 5, 6, 6, 6, 7, 8, 9, 0, -1, 10, 257, fewest, most),
		N:    pick(r, 0, 0, 1, 1, 2, 3, 8, 9, 11, -1, -1, -2, -3, fewest, fewest+1, most-1, most),
		Name: pick(r, "", "", "A", "+", "x", "\xff", "let"),
	}
	for range r.Intn(4) {
		if deep > 0 {
			x.L = append(x.L, wild(r, deep-1))
		}
	}
	return x
}

func TestTermsThatMayBe(t *testing.T) {
	t.Parallel()
	r := rand.New(rand.NewSource(3))
	free, fans, drops, affine := 0, 0, 0, 0
	for range 20000 {
		x := likely(r, r.Intn(7))
		checkRead(t, x)
		free, fans, drops = free+len(use.Free(x)), fans+use.Fans(x), drops+use.Drops(x)
		if len(use.Of(x)) > 2 && use.Affine(x) {
			affine++
		}
	}
	if free < 2000 || fans < 2000 || drops < 2000 || affine < 1000 {
		t.Error("some are few", free, fans, drops, affine)
	}
}

func TestWildTerms(t *testing.T) {
	t.Parallel()
	r := rand.New(rand.NewSource(4))
	free, used := 0, 0
	for range 40000 {
		x := wild(r, r.Intn(6))
		checkRead(t, x)
		free, used = free+len(use.Free(x)), used+len(use.Of(x))-use.Drops(x)
	}
	if free < 10000 || used < 1000 {
		t.Error("some are few", free, used)
	}
}

// row is binders within one another, with variables of them between.
func row(r *rand.Rand, deep int, ns ...int) api.Term {
	x := number(1)
	for range deep {
		x = con("A", x, variable(pick(r, 0, 0, 1, 2, 5, r.Intn(2*deep))), variable(r.Intn(3)))
		if r.Intn(3) == 0 {
			x = con("B", variable(r.Intn(2)), x)
		}
		switch r.Intn(3) {
		case 0:
			x = lam(x)
		case 1:
			x = alt("A", pick(r, ns...), x)
		case 2:
			x = api.Term{Kind: pick(r, 2, 6), N: pick(r, ns...), L: append([]api.Term{variable(r.Intn(3))}, x)}
		}
	}
	return x
}

func TestRowsOfBinders(t *testing.T) {
	t.Parallel()
	r := rand.New(rand.NewSource(13))
	fans := 0
	for range 3000 {
		x := row(r, r.Intn(40), 0, 1, 2, 3, 8)
		checkRead(t, x)
		fans += use.Fans(x)
		checkRead(t, row(r, r.Intn(40), 0, 1, 2, 3, 8, 9, 10, 12, -1, -1, -2, -3))
		checkRead(t, row(r, r.Intn(40), most, most-1, fewest, fewest+1, 2, -1))
	}
	if fans < 10000 {
		t.Error("few variables are used more than once", fans)
	}
}

func TestAllSmallTerms(t *testing.T) {
	t.Parallel()
	small := []api.Term{variable(-1), variable(0), variable(1), variable(2), number(1)}
	next := slices.Clone(small)
	for _, x := range small {
		next = append(next, lam(x), alt("A", 2, x), alt("A", -1, x))
		for _, y := range small {
			next = append(next, app(x, y), api.Term{Kind: 2, L: []api.Term{x, y}})
		}
	}
	for _, x := range next {
		checkRead(t, x)
		for _, y := range next {
			checkRead(t, app(x, y))
			checkRead(t, lam(app(x, y)))
			checkRead(t, lam(lam(app(x, y))))
			checkRead(t, alt("A", 2, api.Term{Kind: 2, L: []api.Term{x, y}}))
			checkRead(t, lam(alt("A", -1, lam(app(x, y)))))
		}
	}
}

// What follows from the promises.

func TestFreeIsWhatUsesTells(t *testing.T) {
	t.Parallel()
	r := rand.New(rand.NewSource(5))
	for i := range 10000 {
		x := likely(r, r.Intn(6))
		if i%3 == 0 {
			x = wild(r, r.Intn(5))
		}
		free := use.Free(x)
		for k := range 14 {
			if slices.Contains(free, k) != (subst.Uses(x, k) > 0) {
				t.Errorf("Free(%s): %s; %d is used %d times", told(x), told(free), k, subst.Uses(x, k))
			}
		}
	}
}

func TestFreeTellsNothingOfClosedTerms(t *testing.T) {
	t.Parallel()
	r := rand.New(rand.NewSource(6))
	closed := 0
	for range 20000 {
		x := likely(r, r.Intn(6))
		// A term may be, of one more than the last one of its free variables, and of no fewer.
		least := 0
		if free := use.Free(x); len(free) > 0 {
			least = free[len(free)-1] + 1
		}
		if !core.May(x, least) || core.May(x, least-1) {
			t.Errorf("Free(%s): %s", told(x), told(use.Free(x)))
		}
		if core.May(x, 0) {
			closed++
			checkFree(t, x)
		}
		checkFree(t, chain(least, x))
	}
	if closed < 1000 {
		t.Error("few are closed", closed)
	}
}

// once is a term each of whose binders is used once, and which has each of these free variables once.
func once(r *rand.Rand, free []int, deep int) api.Term {
	r.Shuffle(len(free), func(i, j int) { free[i], free[j] = free[j], free[i] })
	within := func(n int, l []int) []int {
		made := make([]int, n)
		for i := range made {
			made[i] = i
		}
		for _, k := range l {
			made = append(made, k+n)
		}
		return made
	}
	cut := r.Intn(len(free) + 1)
	switch {
	case deep <= 0 && len(free) == 1:
		return variable(free[0])
	case deep <= 0:
		return vars(free...)
	case r.Intn(2) == 0:
		return lam(once(r, within(1, free), deep-1))
	case r.Intn(2) == 0:
		return app(once(r, slices.Clone(free[:cut]), deep-1), once(r, slices.Clone(free[cut:]), deep-1))
	}
	n := r.Intn(4)
	return choice(once(r, slices.Clone(free[:cut]), deep-1), alt("A", n, once(r, within(n, free[cut:]), deep-1)))
}

func TestWhatIsUsedOnceHasNoFansAndNoDrops(t *testing.T) {
	t.Parallel()
	r := rand.New(rand.NewSource(7))
	binders := 0
	for range 10000 {
		free := []int{0, 2, 7}[:r.Intn(4)]
		x := once(r, slices.Clone(free), r.Intn(7))
		uses := use.Of(x)
		binders += len(uses)
		checkFree(t, x, free...)
		checkOf(t, x, slices.Repeat([]int{1}, len(uses))...)
		checkTold(t, x, true, 0, 0)
	}
	if binders < 10000 {
		t.Error("few binders", binders)
	}
}

// countVars is how many variables x has.
func countVars(x api.Term) int {
	n := 0
	if x.Kind == 1 {
		n = 1
	}
	for _, p := range x.L {
		n += countVars(p)
	}
	return n
}

func TestEachVariableIsFreeOrUsed(t *testing.T) {
	t.Parallel()
	r := rand.New(rand.NewSource(8))
	for range 10000 {
		x := likely(r, r.Intn(7))
		sum, binders := 0, 0
		for _, n := range use.Of(x) {
			sum += n
			binders++
		}
		if use.Fans(x)-use.Drops(x) != sum-binders {
			t.Errorf("%s: Fans %d, Drops %d, Of %s", told(x), use.Fans(x), use.Drops(x), told(use.Of(x)))
		}
		for _, k := range use.Free(x) {
			sum += subst.Uses(x, k)
		}
		if sum != countVars(x) {
			t.Errorf("%s: %d variables are free or used, of %d", told(x), sum, countVars(x))
		}
	}
}

func TestWhatIsMovedUpIsUsedLikewise(t *testing.T) {
	t.Parallel()
	r := rand.New(rand.NewSource(9))
	for range 10000 {
		x, s, k := likely(r, r.Intn(6)), likely(r, r.Intn(3)), r.Intn(4)
		free := use.Free(x)
		for i := range free {
			free[i] += k
		}
		checkFree(t, subst.Up(x, k, 0), free...)
		checkOf(t, subst.Up(x, k, 0), use.Of(x)...)
		// What is put in a variable's place has its own binders, as often as it is put.
		y := subst.Put(x, k, s)
		if got, want := len(use.Of(y)), len(use.Of(x))+subst.Uses(x, k)*len(use.Of(s)); got != want {
			t.Errorf("Put(%s, %d, %s): %d binders; want %d", told(x), k, told(s), got, want)
		}
	}
}

// P1, and the rules: every call ends, none panics; nothing is changed, shared or kept.

func TestDeepTerms(t *testing.T) {
	t.Parallel()
	n := levels - 1
	checkFree(t, chain(n, variable(n+2)), 2)
	checkFree(t, chain(n, variable(n-1)))
	x := chain(n, vars(0, n-1, n-1, n, n+5))
	want := make([]int, n)
	want[0], want[n-1] = 2, 1
	checkUses(t, x, want...)
	checkFree(t, x, 0, 5)
	// Variables within one another, and kinds that there are not.
	v, w := api.Term{Kind: 1, N: 4}, api.Term{Kind: -1}
	for range levels - 1 {
		v = api.Term{Kind: 1, N: 4, L: []api.Term{v}}
		w = api.Term{Kind: -1, L: []api.Term{w}}
	}
	checkFree(t, v, 4)
	checkUses(t, chain(5, v), levels, 0, 0, 0, 0)
	checkFree(t, w)
	checkUses(t, w)
}

func TestDeepAlternatives(t *testing.T) {
	t.Parallel()
	n := levels/2 - 1
	x := number(1)
	var want []int
	for range n {
		// At each level the first variable is used by what is next to it, and by what is one level further in.
		x = choice(variable(7), alt("A", 8, con("P", vars(7, 6, 6), x)))
		want = append(want, 2, 2, 0, 0, 0, 0, 0, 0)
	}
	want[len(want)-8] = 1
	checkUses(t, x, want...)
	checkFree(t, x, 7)
	// Each is within fewer binders than what is around it, and as many as its second next: all that is within it counts.
	x = variable(0)
	for range n {
		x = lam(alt("A", -1, x))
	}
	checkFree(t, x, 0)
	checkUses(t, x, make([]int, n)...)
	checkUses(t, lam(x), append([]int{1}, make([]int, n)...)...)
	x = lam(variable(0))
	for range n {
		x = lam(alt("A", -1, x))
	}
	checkUses(t, x, slices.Repeat([]int{1}, n+1)...)
	// Of each level both functions are the same one, as their variables tell it.
	x = used(0, 3)
	for range n / 2 {
		x = lam(alt("A", -1, lam(x)))
	}
	want = make([]int, 2*(n/2))
	want[len(want)-4], want[len(want)-3] = 3, 3
	checkFree(t, x)
	checkUses(t, x, want...)
}

func TestWideTerms(t *testing.T) {
	t.Parallel()
	const wide = 200000
	list := func(p api.Term) api.Term { return con("A", slices.Repeat([]api.Term{p}, wide)...) }
	checkFree(t, list(lam(vars(0, 1, 2))), 0, 1)
	checkUses(t, list(lam(used(2))), slices.Repeat([]int{2}, wide)...)
	checkUses(t, lam(list(variable(0))), wide)
	checkUses(t, lam(list(lam(variable(1)))), append([]int{wide}, make([]int, wide)...)...)
	var all, rising []int
	for k := range wide {
		rising = append(rising, k)
		all = append(all, wide-1-k, k)
	}
	checkFree(t, vars(all...), rising...)
	checkUses(t, lam(con(strings.Repeat("A", wide), variable(0))), 1)
}

// copied is x, of which no list is x's.
func copied(x api.Term) api.Term {
	var l []api.Term
	for _, p := range x.L {
		l = append(l, copied(p))
	}
	x.L = l
	return x
}

// roomy is x, each of whose lists has room behind it, that has something.
func roomy(x api.Term) api.Term {
	made := []api.Term{}
	for _, p := range x.L {
		made = append(made, roomy(p))
	}
	x.L = append(made, variable(3), lam(variable(0)))[:len(x.L)]
	return x
}

func checkRoom(t *testing.T, x api.Term) {
	t.Helper()
	if behind := x.L[len(x.L) : len(x.L)+2]; !core.Same(con("", behind...), con("", variable(3), lam(variable(0)))) {
		t.Errorf("behind the list of %s something was changed: %s", told(x), told(behind))
	}
	for _, p := range x.L {
		checkRoom(t, p)
	}
}

func TestArgumentsAreLeft(t *testing.T) {
	t.Parallel()
	r := rand.New(rand.NewSource(10))
	for i := range 3000 {
		want := likely(r, r.Intn(6))
		if i%3 == 0 {
			want = wild(r, r.Intn(5))
		}
		x := roomy(want)
		checkRead(t, x)
		if !core.Same(x, want) {
			t.Errorf("%s was changed: %s", told(want), told(x))
		}
		checkRoom(t, x)
	}
}

func TestNothingIsKept(t *testing.T) {
	r := rand.New(rand.NewSource(11))
	for range 2000 {
		x, y := likely(r, r.Intn(6)), likely(r, r.Intn(6))
		for range 2 {
			checkRead(t, x)
			checkRead(t, copied(x))
			for _, l := range [][]int{use.Free(x), use.Of(x)} {
				l = l[:cap(l)]
				for i := range l {
					l[i] = -99
				}
			}
			checkRead(t, y)
		}
	}
}

func TestEmptyListsAndNilOnes(t *testing.T) {
	for kind := -1; kind < 11; kind++ {
		for _, n := range []int{0, 1, 2, 9, -1} {
			none := api.Term{Kind: kind, N: n}
			empty, room := none, none
			empty.L, room.L = []api.Term{}, make([]api.Term, 0, 4)
			for _, around := range []func(x api.Term) api.Term{func(x api.Term) api.Term { return x }, lam, func(x api.Term) api.Term { return app(x, lam(x)) }} {
				for _, x := range []api.Term{empty, room} {
					checkFree(t, around(x), use.Free(around(none))...)
					checkUses(t, around(x), readOf(around(none))...)
				}
			}
		}
	}
}

func TestCallsAtOneTime(t *testing.T) {
	r := rand.New(rand.NewSource(12))
	var all []api.Term
	for range 100 {
		all = append(all, likely(r, 5))
	}
	var wait sync.WaitGroup
	for range 8 {
		wait.Go(func() {
			for _, x := range all {
				checkRead(t, x)
			}
		})
	}
	wait.Wait()
}
