package subst_test

import (
	"fmt"
	"math"
	"math/big"
	"math/rand"
	"reflect"
	"slices"
	"strings"
	"sync"
	"testing"
	"unsafe"

	"gossamer/api"
	"gossamer/core"
	"gossamer/subst"
)

const (
	levels = 1 << 16
	great  = 1 << 62
	fewest = math.MinInt
	most   = math.MaxInt
)

// Kinds are written as numbers: the chapters tell them so.

func variable(n int) api.Term              { return api.Term{Kind: 1, N: n} }
func lam(b api.Term) api.Term              { return api.Term{Kind: 2, L: []api.Term{b}} }
func app(f, a api.Term) api.Term           { return api.Term{Kind: 3, L: []api.Term{f, a}} }
func con(s string, l ...api.Term) api.Term { return api.Term{Kind: 4, Name: s, L: l} }
func number(n int) api.Term                { return api.Term{Kind: 7, N: n} }
func op(s string, a, b api.Term) api.Term  { return api.Term{Kind: 8, Name: s, L: []api.Term{a, b}} }
func failed() api.Term                     { return api.Term{Kind: 9} }

func choice(x api.Term, alts ...api.Term) api.Term {
	return api.Term{Kind: 5, L: append([]api.Term{x}, alts...)}
}

func alt(s string, n int, b api.Term) api.Term {
	return api.Term{Kind: 6, Name: s, N: n, L: []api.Term{b}}
}

// vars is a constructor of variables.
func vars(l ...int) api.Term {
	x := api.Term{Kind: 4, Name: "V"}
	for _, n := range l {
		x.L = append(x.L, variable(n))
	}
	return x
}

func pick[T any](r *rand.Rand, l ...T) T { return l[r.Intn(len(l))] }

// told is x as a failure tells it: no more than its first bytes.
func told(x any) string {
	s := fmt.Sprintf("%+q", fmt.Sprint(x))
	if len(s) > 400 {
		s = s[:400] + ".."
	}
	return s
}

// copied is x, of which no list and no name is x's.
func copied(x api.Term) api.Term {
	l := make([]api.Term, 0, len(x.L))
	for _, p := range x.L {
		l = append(l, copied(p))
	}
	x.Name = strings.Clone(x.Name)
	x.L = l
	return x
}

// equal tells if nothing is other in a and in b, as the language tells it.
func equal(a, b api.Term) bool { return reflect.DeepEqual(copied(a), copied(b)) }

// The promises, read otherwise: spot by spot.

// turned is the sum of all, that turns round as numbers of 64 bits do.
func turned(l ...int) int {
	sum := new(big.Int)
	for _, n := range l {
		sum.Add(sum, big.NewInt(int64(n)))
	}
	whole := new(big.Int).Lsh(big.NewInt(1), 64)
	sum.Mod(sum, whole)
	if sum.Bit(63) == 1 {
		sum.Sub(sum, whole)
	}
	return int(sum.Int64())
}

// spot is a CoreVar of a term, and within how many binders it is.
type spot struct {
	at *api.Term
	b  int
}

// spots are those of x, each ahead of those in its parts.
func spots(x *api.Term) []spot {
	var found []spot
	for todo := []spot{{x, 0}}; len(todo) > 0; {
		s := todo[len(todo)-1]
		todo = todo[:len(todo)-1]
		b := s.b
		switch s.at.Kind {
		case 1:
			found = append(found, s)
		case 2:
			b = turned(b, 1)
		case 6:
			b = turned(b, s.at.N)
		}
		for i := range s.at.L {
			todo = append(todo, spot{&s.at.L[i], b})
		}
	}
	return found
}

func readUp(t api.Term, by, from int) api.Term {
	x := copied(t)
	for _, s := range spots(&x) {
		if s.at.N >= turned(from, s.b) {
			s.at.N = turned(s.at.N, by)
		}
	}
	return x
}

func readUses(t api.Term, k int) int {
	n := 0
	for _, s := range spots(&t) {
		if s.at.N == turned(k, s.b) {
			n++
		}
	}
	return n
}

func readPut(t api.Term, k int, s api.Term) api.Term {
	x := copied(t)
	for _, v := range spots(&x) {
		if own := turned(k, v.b); v.at.N == own {
			// The parts that it had are spots that are none of x any more.
			*v.at = readUp(s, v.b, 0)
		} else if v.at.N > own {
			v.at.N--
		}
	}
	return x
}

func readInst(t api.Term, l []api.Term) api.Term {
	x := copied(t)
	for _, v := range spots(&x) {
		readInstAt(v, l)
	}
	return x
}

func readInstAt(v spot, l []api.Term) {
	isAbove := true
	for i := range l {
		own := turned(v.b, i)
		if v.at.N == own {
			*v.at = readUp(l[len(l)-1-i], v.b, 0)
			return
		}
		isAbove = isAbove && v.at.N > own
	}
	if isAbove {
		v.at.N = turned(v.at.N, -len(l))
	}
}

// Checks.

func checkUp(t *testing.T, x api.Term, by, from int, want api.Term) {
	t.Helper()
	if got := subst.Up(x, by, from); !equal(got, want) {
		t.Errorf("Up(%s, %d, %d): %s; want %s", told(x), by, from, told(got), told(want))
	}
}

func checkUses(t *testing.T, x api.Term, k, want int) {
	t.Helper()
	if got := subst.Uses(x, k); got != want {
		t.Errorf("Uses(%s, %d): %d; want %d", told(x), k, got, want)
	}
}

func checkPut(t *testing.T, x api.Term, k int, s, want api.Term) {
	t.Helper()
	if got := subst.Put(x, k, s); !equal(got, want) {
		t.Errorf("Put(%s, %d, %s): %s; want %s", told(x), k, told(s), told(got), told(want))
	}
}

func checkInst(t *testing.T, x api.Term, l []api.Term, want api.Term) {
	t.Helper()
	if got := subst.Inst(x, l); !equal(got, want) {
		t.Errorf("Inst(%s, %s): %s; want %s", told(x), told(l), told(got), told(want))
	}
}

// checkRead asks for all four of x, held against the promises' reading.
func checkRead(t *testing.T, x, s api.Term, l []api.Term, n, m int) {
	t.Helper()
	checkUp(t, x, n, m, readUp(x, n, m))
	checkUses(t, x, n, readUses(x, n))
	checkPut(t, x, n, s, readPut(x, n, s))
	checkInst(t, x, l, readInst(x, l))
}

// P8.1, Up.

func TestUpOfEachKind(t *testing.T) {
	up := func(x api.Term, want string) {
		t.Helper()
		if got := core.Text(subst.Up(x, 10, 1)); got != want {
			t.Errorf("Up(%s, 10, 1): %s; want %s", core.Text(x), got, want)
		}
	}
	zero, one, two := variable(0), variable(1), variable(2)
	up(zero, "#0")
	up(one, "#11")
	up(two, "#12")
	up(number(5), "5")
	up(failed(), "!")
	up(con("Nil"), "(Nil)")
	up(con("P", zero, one, two), "(P #0 #11 #12)")
	up(app(two, zero), "(@ #12 #0)")
	up(app(zero, two), "(@ #0 #12)")
	up(op("-", one, one), "(- #11 #11)")
	up(lam(zero), `(\ #0)`)
	up(lam(one), `(\ #1)`)
	up(lam(two), `(\ #12)`)
	up(lam(lam(vars(0, 1, 2, 3, 4))), `(\ (\ (V #0 #1 #2 #13 #14)))`)
	// What is looked at is not within the variables of the alternatives, nor is one alternative within those of another.
	up(choice(two, alt("A", 0, one), alt("B", 2, vars(2, 3)), alt("C", 0, two)), "(? #12 (A:0 #11) (B:2 (V #2 #13)) (C:0 #12))")
	up(alt("B", 8, vars(8, 9)), "(B:8 (V #8 #19))")
	up(app(lam(two), two), `(@ (\ #12) #12)`)
	up(lam(choice(vars(1, 2), alt("A", 3, lam(vars(4, 5, 6))))), `(\ (? (V #1 #12) (A:3 (\ (V #4 #5 #16)))))`)
}

func TestUpByAndFrom(t *testing.T) {
	for n := range 6 {
		for from := range 6 {
			for _, by := range []int{0, 1, 2, 7, -1, -3, great} {
				for binders := range 6 {
					want := n
					if n >= from+binders {
						want = n + by
					}
					checkUp(t, chain(binders, variable(n)), by, from, chain(binders, variable(want)))
					checkUp(t, alt("A", binders, variable(n)), by, from, alt("A", binders, variable(want)))
				}
			}
		}
	}
}

// chain is that many functions around x.
func chain(n int, x api.Term) api.Term {
	for range n {
		x = lam(x)
	}
	return x
}

func TestUpOfAnyNumbers(t *testing.T) {
	x := vars(fewest, -great, -2, -1, 0, 1, 2, great, most)
	checkUp(t, x, 5, -1, vars(fewest, -great, -2, 4, 5, 6, 7, great+5, fewest+4))
	checkUp(t, x, -1, fewest, vars(most, -great-1, -3, -2, -1, 0, 1, great-1, most-1))
	checkUp(t, x, 3, most, vars(fewest, -great, -2, -1, 0, 1, 2, great, fewest+2))
	checkUp(t, x, fewest, 1, vars(fewest, -great, -2, -1, 0, fewest+1, fewest+2, great-most-1, -1))
	checkUp(t, x, most, 2, vars(fewest, -great, -2, -1, 0, 1, fewest+1, great-most-2, -2))
	// Sums of from and the binders turn round: here all are above.
	checkUp(t, lam(x), 1, most, lam(vars(fewest+1, -great+1, -1, 0, 1, 2, 3, great+1, fewest)))
	checkUp(t, alt("A", 9, x), -1, most-8, alt("A", 9, vars(most, -great-1, -3, -2, -1, 0, 1, great-1, most-1)))
	checkUp(t, alt("A", -1, x), 1, fewest, alt("A", -1, vars(fewest, -great, -2, -1, 0, 1, 2, great, fewest)))
}

// P8.1, Uses.

func TestUsesOfEachKind(t *testing.T) {
	v := vars(0, 1, 1, 2, 2, 2)
	for k, want := range []int{1, 2, 3, 0, 0} {
		checkUses(t, v, k, want)
		checkUses(t, app(v, v), k, 2*want)
		checkUses(t, con("A", v, number(k), v, v), k, 3*want)
		checkUses(t, op("+", v, number(k)), k, want)
		checkUses(t, op("+", failed(), v), k, want)
		checkUses(t, lam(v), k-1, want)
		checkUses(t, lam(lam(v)), k-2, want)
		checkUses(t, choice(v, alt("A", 1, number(k))), k, want)
		checkUses(t, choice(number(k), alt("A", 0, v), alt("B", 0, v)), k, 2*want)
		checkUses(t, choice(number(k), alt("A", 0, number(k)), alt("B", 4, v)), k-4, want)
		checkUses(t, app(lam(variable(k+1)), choice(variable(k), alt("A", 8, variable(k+8)))), k, 3)
		// Numbers, and how many variables there are, are no variables.
		checkUses(t, number(k), k, 0)
		checkUses(t, con("A", number(k), failed()), k, 0)
		checkUses(t, choice(number(k), alt("A", k, number(k))), k, 0)
	}
	checkUses(t, lam(variable(0)), 0, 0)
	checkUses(t, lam(variable(1)), 0, 1)
	checkUses(t, lam(variable(1)), 1, 0)
	checkUses(t, choice(number(1), alt("A", 2, vars(0, 1, 2, 3))), 0, 1)
}

func TestUsesOfAnyNumbers(t *testing.T) {
	for _, k := range []int{fewest, -great, -1, 0, 1, great, most} {
		checkUses(t, vars(k, k, turned(k, 1)), k, 2)
		checkUses(t, lam(vars(k, k, turned(k, 1))), k, 1)
		checkUses(t, alt("A", 8, vars(k, turned(k, 8), turned(k, 8), turned(k, 9))), k, 2)
		checkUses(t, alt("A", -3, vars(k, turned(k, -3), turned(k, 3))), k, 1)
		checkUses(t, alt("A", most, alt("A", most, vars(turned(k, -2), turned(k, most)))), k, 1)
		checkUses(t, alt("A", fewest, vars(turned(k, fewest), k)), k, 1)
		checkUses(t, number(k), k, 0)
	}
}

func TestWhatIsMovedUpIsNotUsed(t *testing.T) {
	r := rand.New(rand.NewSource(1))
	for range 3000 {
		x, k := likely(r, r.Intn(6)), r.Intn(4)
		y := subst.Up(x, 1, k)
		checkUses(t, y, k, 0)
		for i := range 6 {
			if i < k {
				checkUses(t, y, i, subst.Uses(x, i))
			} else {
				checkUses(t, y, i+1, subst.Uses(x, i))
			}
		}
	}
}

// P8.2, Put.

func TestPutOfTheDocument(t *testing.T) {
	x := lam(app(variable(1), variable(0)))
	if s := core.Text(subst.Put(x, 0, number(7))); s != `(\ (@ 7 #0))` {
		t.Error(s)
	}
}

func TestPutIntoEachKind(t *testing.T) {
	s := con("S", variable(0), lam(vars(0, 1)), number(0))
	put := func(x api.Term, want string) {
		t.Helper()
		if got := core.Text(subst.Put(x, 1, s)); got != want {
			t.Errorf("Put(%s, 1, %s): %s; want %s", core.Text(x), core.Text(s), got, want)
		}
	}
	zero, one, two := variable(0), variable(1), variable(2)
	// What it becomes within no, one, two, .. binders.
	s0, s1, s2 := `(S #0 (\ (V #0 #1)) 0)`, `(S #1 (\ (V #0 #2)) 0)`, `(S #2 (\ (V #0 #3)) 0)`
	put(zero, "#0")
	put(one, s0)
	put(two, "#1")
	put(variable(9), "#8")
	put(number(1), "1")
	put(number(2), "2")
	put(failed(), "!")
	put(con("Nil"), "(Nil)")
	put(con("P", zero, one, two, one), "(P #0 "+s0+" #1 "+s0+")")
	put(app(one, two), "(@ "+s0+" #1)")
	put(app(two, one), "(@ #1 "+s0+")")
	put(op("==", one, one), "(== "+s0+" "+s0+")")
	put(lam(vars(0, 1, 2, 3)), `(\ (V #0 #1 `+s1+" #2))")
	put(lam(lam(vars(0, 1, 2, 3, 4))), `(\ (\ (V #0 #1 #2 `+s2+" #3)))")
	put(choice(one, alt("A", 0, one), alt("B", 1, vars(1, 2, 3)), alt("C", 2, vars(2, 3, 4)), alt("D", 0, two)),
		"(? "+s0+" (A:0 "+s0+") (B:1 (V #1 "+s1+" #2)) (C:2 (V #2 "+s2+" #3)) (D:0 #1))")
	put(alt("B", 2, two), "(B:2 #2)")
	put(app(lam(two), two), `(@ (\ `+s1+") #1)")
	put(choice(lam(one), alt("A", 1, lam(vars(2, 3)))), `(? (\ #1) (A:1 (\ (V #2 `+s2+"))))")
}

func TestPutWithinBinders(t *testing.T) {
	for n := range 7 {
		for k := range 4 {
			for binders := range 4 {
				want := variable(n)
				switch {
				case n == k+binders:
					want = app(variable(3+binders), lam(vars(0, 1+binders)))
				case n > k+binders:
					want = variable(n - 1)
				}
				s := app(variable(3), lam(vars(0, 1)))
				checkPut(t, chain(binders, variable(n)), k, s, chain(binders, want))
				checkPut(t, alt("A", binders, variable(n)), k, s, alt("A", binders, want))
			}
		}
	}
}

func TestPutOfAnyNumbers(t *testing.T) {
	s := vars(-1, 0, most)
	x := vars(fewest, -great, -2, -1, 0, 1, great, most)
	same := func(from int, l ...int) api.Term {
		y := vars(l...)
		y.L[from] = s
		return y
	}
	checkPut(t, x, fewest, s, same(0, 0, -great-1, -3, -2, -1, 0, great-1, most-1))
	checkPut(t, x, -1, s, same(3, fewest, -great, -2, 0, -1, 0, great-1, most-1))
	checkPut(t, x, most, s, same(7, fewest, -great, -2, -1, 0, 1, great, 0))
	// Within binders its own variables turn round, and those below 0 are left.
	checkPut(t, lam(x), -1, s, lam(con("V", variable(fewest), variable(-great), variable(-2), variable(-1), vars(-1, 1, fewest), variable(0), variable(great-1), variable(most-1))))
	// Sums of k and the binders turn round.
	checkPut(t, lam(vars(fewest, 0, most)), most, number(7), lam(con("V", number(7), variable(-1), variable(most-1))))
	checkPut(t, alt("A", fewest, vars(fewest, 0, most)), fewest, number(7), alt("A", fewest, con("V", variable(fewest), number(7), variable(most-1))))
	checkPut(t, alt("A", -1, vars(-2, -1, 0)), 0, variable(4), alt("A", -1, vars(-2, 3, -1)))
	checkPut(t, alt("A", most, variable(most)), 0, vars(-1, 0, 1, most), alt("A", most, vars(-1, most, fewest, -2)))
}

// P8.2, Inst.

func TestInstIntoEachKind(t *testing.T) {
	l := []api.Term{app(variable(0), variable(0)), lam(vars(0, 1)), con("L", variable(2))}
	inst := func(x api.Term, want string) {
		t.Helper()
		if got := core.Text(subst.Inst(x, l)); got != want {
			t.Errorf("Inst(%s, %s): %s; want %s", core.Text(x), told(l), got, want)
		}
	}
	inst(variable(0), "(L #2)")
	inst(variable(1), `(\ (V #0 #1))`)
	inst(variable(2), "(@ #0 #0)")
	inst(variable(3), "#0")
	inst(variable(7), "#4")
	inst(number(0), "0")
	inst(number(7), "7")
	inst(failed(), "!")
	inst(con("Nil"), "(Nil)")
	inst(vars(4, 3, 2, 1, 0), `(V #1 #0 (@ #0 #0) (\ (V #0 #1)) (L #2))`)
	inst(app(variable(0), variable(3)), "(@ (L #2) #0)")
	inst(op("<", variable(5), variable(2)), "(< #2 (@ #0 #0))")
	inst(lam(vars(0, 1, 2, 3, 4)), `(\ (V #0 (L #3) (\ (V #0 #2)) (@ #1 #1) #1))`)
	inst(choice(variable(0), alt("A", 0, variable(0)), alt("B", 2, vars(0, 1, 2, 3, 4, 5)), alt("C", 0, variable(3))),
		`(? (L #2) (A:0 (L #2)) (B:2 (V #0 #1 (L #4) (\ (V #0 #3)) (@ #2 #2) #2)) (C:0 #0))`)
	inst(lam(choice(variable(1), alt("A", 1, lam(vars(2, 3, 4, 5, 6))))), `(\ (? (L #3) (A:1 (\ (V #2 (L #5) (\ (V #0 #4)) (@ #3 #3) #3)))))`)
}

func TestInstOfNoneAndOfOne(t *testing.T) {
	r := rand.New(rand.NewSource(2))
	for range 2000 {
		x, s := likely(r, r.Intn(5)), likely(r, r.Intn(3))
		if r.Intn(3) == 0 {
			x, s = wild(r, r.Intn(4)), wild(r, r.Intn(3))
		}
		checkInst(t, x, nil, x)
		checkInst(t, x, []api.Term{}, x)
		checkInst(t, x, []api.Term{s}, subst.Put(x, 0, s))
	}
}

func TestInstOfManyTerms(t *testing.T) {
	var l []api.Term
	for i := range 5000 {
		l = append(l, number(i))
	}
	for _, n := range []int{0, 1, 2, 8, 100, 4999} {
		checkInst(t, variable(n), l, number(4999-n))
		checkInst(t, lam(lam(vars(0, 1, n+2))), l, lam(lam(con("V", variable(0), variable(1), number(4999-n)))))
	}
	for _, n := range []int{5000, 5001, great, most - 2} {
		checkInst(t, variable(n), l, variable(n-5000))
		checkInst(t, lam(lam(vars(0, 1, n+2))), l, lam(lam(vars(0, 1, n-4998))))
	}
}

func TestInstOfAnyNumbers(t *testing.T) {
	l := []api.Term{number(2), number(1), vars(-1, 0)}
	checkInst(t, vars(fewest, -great, -2, -1, 3, 4, great, most), l, vars(fewest, -great, -2, -1, 0, 1, great-3, most-3))
	// Within binders below 0 those below 0 have places, too.
	checkInst(t, alt("A", -2, vars(fewest, -3, -2, -1, 0, 1, most)), l,
		alt("A", -2, con("V", variable(fewest), variable(-3), vars(-1, -2), number(1), number(2), variable(-2), variable(most-3))))
	checkInst(t, alt("A", fewest, vars(fewest, fewest+3, -1, 0, most)), l,
		alt("A", fewest, con("V", vars(-1, fewest), variable(fewest), variable(-4), variable(-3), variable(most-3))))
	// Sums of binders and places turn round: then none is above all of these.
	checkInst(t, alt("A", most, vars(fewest, fewest+1, fewest+2, -1, 0, most-1, most)), l,
		alt("A", most, con("V", number(1), number(2), variable(fewest+2), variable(-1), variable(0), variable(most-1), vars(-1, most))))
	checkInst(t, alt("A", most-2, vars(fewest, 0, most-3, most-2, most-1, most)), l,
		alt("A", most-2, con("V", variable(fewest), variable(0), variable(most-3), vars(-1, most-2), number(1), number(2))))
}

// P8.1 and P8.2, of terms of any sort.

// likely is a term that may be, if there are free variables enough.
func likely(r *rand.Rand, deep int) api.Term {
	if deep <= 0 {
		return pick(r, variable(r.Intn(6)), variable(r.Intn(3)), variable(0), number(r.Intn(3)), con(pick(r, "A", "B")), failed())
	}
	part := func() api.Term { return likely(r, deep-1-r.Intn(2)) }
	switch r.Intn(7) {
	case 0, 1:
		return lam(part())
	case 2:
		return app(part(), part())
	case 3:
		x := con("A")
		for range r.Intn(4) {
			x.L = append(x.L, part())
		}
		return x
	case 4:
		return op(pick(r, "+", "=="), part(), part())
	}
	x := choice(part())
	for _, s := range []string{"A", "B", "C"}[:1+r.Intn(3)] {
		x.L = append(x.L, alt(s, r.Intn(4), part()))
	}
	return x
}

// wild is a term that has anything.
func wild(r *rand.Rand, deep int) api.Term {
	x := api.Term{
		Kind: pick(r, 1, 1, 1, 2, 2, 3, 4, 5, 6, 6, 7, 8, 9, 0, -1, 10, 257, fewest, most),
		N:    pick(r, 0, 0, 1, 2, 3, 8, -1, -2, -3, fewest, fewest+1, most-1, most),
		Name: pick(r, "", "", "A", "+", "x", "\xff", "let"),
	}
	for range r.Intn(4) {
		if deep > 0 {
			x.L = append(x.L, wild(r, deep-1))
		}
	}
	return x
}

// terms are up to three of them.
func terms(r *rand.Rand, one func(r *rand.Rand, deep int) api.Term) []api.Term {
	var l []api.Term
	for range r.Intn(4) {
		l = append(l, one(r, r.Intn(3)))
	}
	return l
}

func TestTermsThatMayBe(t *testing.T) {
	t.Parallel()
	r := rand.New(rand.NewSource(3))
	used := 0
	for range 10000 {
		x, n := likely(r, r.Intn(6)), r.Intn(5)
		used += subst.Uses(x, n)
		checkRead(t, x, likely(r, r.Intn(4)), terms(r, likely), n, r.Intn(5))
	}
	if used < 2000 {
		t.Error("few variables are used", used)
	}
}

func TestWildTerms(t *testing.T) {
	t.Parallel()
	r := rand.New(rand.NewSource(4))
	used := 0
	for range 20000 {
		n, m := pick(r, 0, 0, 1, 2, -1, fewest, most-1, most), pick(r, 0, 1, 2, -1, -7, great, fewest, most)
		x := wild(r, r.Intn(5))
		used += subst.Uses(x, n)
		checkRead(t, x, wild(r, r.Intn(3)), terms(r, wild), n, m)
	}
	if used < 1000 {
		t.Error("few variables are used", used)
	}
}

func TestTermsThatMayNotBe(t *testing.T) {
	v, s := vars(0, 1, 2), lam(vars(0, 1))
	l := []api.Term{variable(5), s}
	// Parts of a variable are parts of the term, while it stays one.
	x := api.Term{Kind: 1, N: 3, Name: "x", L: []api.Term{v, lam(v), variable(1)}}
	checkUp(t, x, 4, 1, api.Term{Kind: 1, N: 7, Name: "x", L: []api.Term{vars(0, 5, 6), lam(vars(0, 1, 6)), variable(5)}})
	checkUp(t, x, 4, 4, x)
	checkUses(t, x, 1, 3)
	checkUses(t, x, 3, 1)
	checkPut(t, x, 1, number(8), api.Term{Kind: 1, N: 2, Name: "x", L: []api.Term{con("V", variable(0), number(8), variable(1)), lam(con("V", variable(0), variable(1), number(8))), number(8)}})
	checkPut(t, x, 3, s, s)
	checkInst(t, x, l, api.Term{Kind: 1, N: 1, Name: "x", L: []api.Term{con("V", s, variable(5), variable(0)), lam(con("V", variable(0), lam(vars(0, 2)), variable(6))), variable(5)}})
	checkInst(t, x, []api.Term{number(0), v, v, v}, number(0))
	// All parts of a function and of an alternative are within what they bind; those of others are not, whatever N they have.
	for _, kind := range []int{fewest, -6, -2, -1, 0, 3, 4, 5, 7, 8, 9, 10, 11, 258, 262, most} {
		for _, n := range []int{0, 1, 2, most, fewest} {
			x := api.Term{Kind: kind, N: n, Name: "x", L: []api.Term{v, number(1), v}}
			checkUp(t, x, 3, 1, api.Term{Kind: kind, N: n, Name: "x", L: []api.Term{vars(0, 4, 5), number(1), vars(0, 4, 5)}})
			checkUses(t, x, 1, 2)
			checkPut(t, x, 1, s, api.Term{Kind: kind, N: n, Name: "x", L: []api.Term{con("V", variable(0), s, variable(1)), number(1), con("V", variable(0), s, variable(1))}})
			checkInst(t, x, l, api.Term{Kind: kind, N: n, Name: "x", L: []api.Term{con("V", s, variable(5), variable(0)), number(1), con("V", s, variable(5), variable(0))}})
		}
	}
	for _, n := range []int{0, 1, 2, 5, -1} {
		x := api.Term{Kind: 2, N: n, Name: "x", L: []api.Term{v, v}}
		checkUp(t, x, 3, 1, api.Term{Kind: 2, N: n, Name: "x", L: []api.Term{vars(0, 1, 5), vars(0, 1, 5)}})
		checkUses(t, x, 1, 2)
	}
	checkUp(t, api.Term{Kind: 6, N: 1, L: []api.Term{v, v}}, 3, 1, api.Term{Kind: 6, N: 1, L: []api.Term{vars(0, 1, 5), vars(0, 1, 5)}})
	for _, x := range []api.Term{{}, {Kind: 2}, {Kind: 3}, {Kind: 6, N: -5}, {Kind: 7, N: 3, Name: "A"}, {Kind: 77, N: 3}} {
		checkUp(t, x, 1, 0, x)
		checkPut(t, x, 3, s, x)
		checkInst(t, x, l, x)
		checkUses(t, x, 3, 0)
		// In a variable's place any term may stand.
		checkPut(t, lam(variable(1)), 0, x, lam(x))
		checkInst(t, lam(variable(1)), []api.Term{s, x}, lam(x))
	}
}

// P8.3.

func TestPutOfWhatWasMovedUpIsAsItWas(t *testing.T) {
	t.Parallel()
	r := rand.New(rand.NewSource(5))
	for range 10000 {
		x, s, k := likely(r, r.Intn(6)), likely(r, r.Intn(4)), r.Intn(6)
		checkPut(t, subst.Up(x, 1, k), k, s, x)
		l := terms(r, likely)
		checkInst(t, subst.Up(x, len(l), 0), l, x)
	}
}

func TestPutsBehindEachOther(t *testing.T) {
	t.Parallel()
	r := rand.New(rand.NewSource(6))
	for range 10000 {
		x, a, b := likely(r, r.Intn(5)), likely(r, r.Intn(3)), likely(r, r.Intn(3))
		j := r.Intn(4)
		k := j + r.Intn(4)
		behind := subst.Put(subst.Put(x, j, a), k, b)
		ahead := subst.Put(subst.Put(x, k+1, subst.Up(b, 1, j)), j, subst.Put(a, k, b))
		if !equal(behind, ahead) {
			t.Errorf("%s, %d: %s, %d: %s: behind: %s; ahead: %s", told(x), j, told(a), k, told(b), told(behind), told(ahead))
		}
	}
}

func TestInstIsOnePutBehindAnother(t *testing.T) {
	t.Parallel()
	r := rand.New(rand.NewSource(7))
	for range 5000 {
		x, l := likely(r, r.Intn(5)), terms(r, likely)
		want := x
		for i := len(l) - 1; i >= 0; i-- {
			// Of those ahead of it the variables are still there.
			want = subst.Put(want, 0, subst.Up(l[i], i, 0))
		}
		checkInst(t, x, l, want)
	}
}

func TestUsesOfWhatWasPut(t *testing.T) {
	t.Parallel()
	r := rand.New(rand.NewSource(8))
	for range 5000 {
		x, s, k := likely(r, r.Intn(5)), likely(r, r.Intn(3)), r.Intn(4)
		y, n := subst.Put(x, k, s), subst.Uses(x, k)
		for i := range 6 {
			own := i
			if i >= k {
				own = i + 1
			}
			checkUses(t, y, i, subst.Uses(x, own)+n*subst.Uses(s, i))
		}
		if size := core.Size(x) + n*(core.Size(s)-1); core.Size(y) != size {
			t.Errorf("Put(%s, %d, %s): Size %d; want %d", told(x), k, told(s), core.Size(y), size)
		}
	}
}

// P1, and the rules: every call ends, none panics; nothing is changed, shared or kept.

func checkDeep(t *testing.T, what string, got, want api.Term) {
	t.Helper()
	if !core.Same(got, want) {
		t.Errorf("%s: %s; want %s", what, told(core.Text(got)), told(core.Text(want)))
	}
}

func TestDeepTerms(t *testing.T) {
	t.Parallel()
	n := levels - 1
	x := chain(n, variable(n+2))
	checkDeep(t, "Up", subst.Up(x, 5, 2), chain(n, variable(n+7)))
	checkDeep(t, "Up", subst.Up(x, 5, 3), x)
	checkDeep(t, "Put", subst.Put(x, 2, variable(1)), chain(n, variable(n+1)))
	checkDeep(t, "Put", subst.Put(x, 1, variable(1)), chain(n, variable(n+1)))
	checkDeep(t, "Put", subst.Put(lam(variable(1)), 0, x), chain(n+1, variable(n+3)))
	checkDeep(t, "Inst", subst.Inst(x, []api.Term{vars(0), number(3), number(4)}), chain(n, vars(n)))
	checkDeep(t, "Inst", subst.Inst(x, []api.Term{number(3)}), chain(n, variable(n+1)))
	checkUses(t, x, 2, 1)
	checkUses(t, x, 1, 0)
	checkUses(t, x, 3, 0)
}

// tower is terms of each kind around x, as many levels as are told, at least, and how many variables they bind.
func tower(n int, x api.Term) (y api.Term, bound int) {
	one := number(1)
	for range n / 7 {
		x = con("A", one, lam(app(op("+", choice(one, alt("B", 0, one), alt("C", 3, x)), one), one)))
		bound += 4
	}
	return x, bound
}

func TestDeepTermsOfAllKinds(t *testing.T) {
	t.Parallel()
	_, bound := tower(levels, number(0))
	around := func(x api.Term) api.Term {
		x, _ = tower(levels, x)
		return x
	}
	x := around(vars(bound-1, bound, bound+1))
	checkDeep(t, "Up", subst.Up(x, 5, 0), around(vars(bound-1, bound+5, bound+6)))
	checkDeep(t, "Put", subst.Put(x, 0, variable(2)), around(vars(bound-1, bound+2, bound)))
	checkDeep(t, "Put", subst.Put(variable(0), 0, x), x)
	checkDeep(t, "Inst", subst.Inst(x, []api.Term{number(1), number(0)}), around(con("V", variable(bound-1), number(0), number(1))))
	checkUses(t, x, 0, 1)
	checkUses(t, x, -1, 1)
	checkUses(t, x, 2, 0)
	// Variables within one another, and parts that have none.
	v, w := api.Term{Kind: 1}, api.Term{Kind: 1, N: 1}
	for range levels - 1 {
		v = api.Term{Kind: 1, L: []api.Term{v}}
		w = api.Term{Kind: 1, N: 1, L: []api.Term{w}}
	}
	checkDeep(t, "Up", subst.Up(v, 1, 0), w)
	checkDeep(t, "Put", subst.Put(w, 0, failed()), v)
	checkDeep(t, "Put", subst.Put(v, 0, failed()), failed())
	checkUses(t, v, 0, levels)
	checkUses(t, w, 0, 0)
}

func TestWideTerms(t *testing.T) {
	t.Parallel()
	const wide = 200000
	list := func(p api.Term) api.Term { return con("A", slices.Repeat([]api.Term{p}, wide)...) }
	x := list(lam(vars(0, 1, 2)))
	checkDeep(t, "Up", subst.Up(x, 2, 1), list(lam(vars(0, 1, 4))))
	checkDeep(t, "Put", subst.Put(x, 0, variable(8)), list(lam(vars(0, 9, 1))))
	checkDeep(t, "Inst", subst.Inst(x, []api.Term{number(7), variable(8)}), list(lam(con("V", variable(0), variable(9), number(7)))))
	checkUses(t, x, 1, wide)
	checkDeep(t, "Put", subst.Put(vars(0, 1), 0, list(variable(0))), con("V", list(variable(0)), variable(0)))
	long := strings.Repeat("A", wide)
	checkDeep(t, "Up", subst.Up(con(long, variable(0)), 1, 0), con(long, variable(1)))
	checkDeep(t, "Put", subst.Put(variable(0), 0, con(long)), con(long))
}

// roomy is x, each of whose lists has room behind it, that has something.
func roomy(x api.Term) api.Term {
	x.L = roomyList(x.L)
	return x
}

func roomyList(l []api.Term) []api.Term {
	made := []api.Term{}
	for _, p := range l {
		made = append(made, roomy(p))
	}
	return append(made, number(77), failed())[:len(l)]
}

func checkRoom(t *testing.T, l []api.Term) {
	t.Helper()
	if behind := l[len(l) : len(l)+2]; !equal(behind[0], number(77)) || !equal(behind[1], failed()) {
		t.Errorf("behind a list of %s something was changed: %s", told(l), told(behind))
	}
	for _, p := range l {
		checkRoom(t, p.L)
	}
}

// memory is where the lists and the names of x stand.
func memory(x api.Term) (lists, names []unsafe.Pointer) {
	if x.Name != "" {
		names = append(names, unsafe.Pointer(unsafe.StringData(x.Name)))
	}
	if cap(x.L) > 0 {
		lists = append(lists, unsafe.Pointer(unsafe.SliceData(x.L)))
	}
	for _, p := range x.L {
		l, n := memory(p)
		lists, names = append(lists, l...), append(names, n...)
	}
	return lists, names
}

// checkApart asks that no two lists of the answer are one, and that it shares neither lists nor names with others.
func checkApart(t *testing.T, answer api.Term, others ...api.Term) {
	t.Helper()
	seen := map[unsafe.Pointer]bool{}
	for _, x := range others {
		lists, names := memory(x)
		for _, p := range append(lists, names...) {
			seen[p] = true
		}
	}
	lists, names := memory(answer)
	for _, p := range names {
		if seen[p] {
			t.Errorf("%s shares a name", told(answer))
		}
	}
	for _, p := range lists {
		if seen[p] {
			t.Errorf("%s shares a list", told(answer))
		}
		seen[p] = true
	}
}

func TestArgumentsAreLeft(t *testing.T) {
	t.Parallel()
	r := rand.New(rand.NewSource(9))
	for i := range 3000 {
		one := likely
		if i%3 == 0 {
			one = wild
		}
		wantX, wantS, wantL := one(r, r.Intn(5)), one(r, r.Intn(4)), terms(r, one)
		x, s, l := roomy(wantX), roomy(wantS), roomyList(wantL)
		others := append([]api.Term{x, s}, l...)
		k := r.Intn(3)
		checkApart(t, subst.Up(x, k, 1), others...)
		checkApart(t, subst.Up(x, 0, 0), others...)
		checkApart(t, subst.Put(x, k, s), others...)
		checkApart(t, subst.Inst(x, l), others...)
		checkApart(t, subst.Inst(x, nil), others...)
		subst.Uses(x, k)
		if !equal(x, wantX) || !equal(s, wantS) || !equal(con("", l...), con("", wantL...)) {
			t.Errorf("%s, %s, %s was changed: %s, %s, %s", told(wantX), told(wantS), told(wantL), told(x), told(s), told(l))
		}
		checkRoom(t, x.L)
		checkRoom(t, s.L)
		checkRoom(t, l)
	}
}

// scratch writes into all lists of x.
func scratch(x *api.Term) {
	for i := range x.L {
		scratch(&x.L[i])
	}
	*x = number(-99)
}

func TestNothingIsKept(t *testing.T) {
	r := rand.New(rand.NewSource(10))
	for range 1000 {
		x, s, l := likely(r, r.Intn(5)), likely(r, r.Intn(3)), terms(r, likely)
		n, m := r.Intn(4), r.Intn(4)
		for range 2 {
			checkRead(t, x, s, l, n, m)
			for _, answer := range []api.Term{subst.Up(x, n, m), subst.Put(x, n, s), subst.Inst(x, l)} {
				scratch(&answer)
			}
			subst.Put(s, m, x)
		}
	}
}

func TestEmptyListsAndNilOnes(t *testing.T) {
	for kind := -1; kind < 11; kind++ {
		for _, n := range []int{0, 1, 2, 3} {
			none, empty := api.Term{Kind: kind, N: n}, api.Term{Kind: kind, N: n, L: []api.Term{}}
			room := api.Term{Kind: kind, N: n, L: make([]api.Term, 0, 4)}
			for _, x := range []api.Term{empty, room} {
				checkUp(t, x, 2, 1, subst.Up(none, 2, 1))
				checkPut(t, x, 1, x, subst.Put(none, 1, none))
				checkInst(t, x, []api.Term{x, x}, subst.Inst(none, []api.Term{none, none}))
				checkUses(t, x, 1, subst.Uses(none, 1))
			}
		}
	}
}

func TestCallsAtOneTime(t *testing.T) {
	r := rand.New(rand.NewSource(11))
	var all []api.Term
	for range 50 {
		all = append(all, likely(r, 4))
	}
	var wait sync.WaitGroup
	for range 8 {
		wait.Go(func() {
			for i, x := range all {
				checkRead(t, x, all[len(all)-1-i], all[:3], i%4, 1)
			}
		})
	}
	wait.Wait()
}
