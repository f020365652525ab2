package rule_test

import (
	"fmt"
	"math"
	"math/big"
	"math/rand"
	"slices"
	"strings"
	"sync"
	"testing"
	"unsafe"

	"gossamer/api"
	"gossamer/head"
	"gossamer/rule"
)

// Kinds, plans, errors and limits are written as numbers: the chapters tell them so.

const (
	none = 0
	root = 1
	lam  = 2
	app  = 3
	fan  = 4
	open = 5
	shut = 6
	drop = 7
	con  = 8
	kase = 9
	num  = 10
	oper = 11
	half = 12
	fail = 13

	planNone = 0
	planBeta = 1
	planPick = 2
	planHalf = 3
	planOut  = 4
	planFail = 5
	planJoin = 6
	planPass = 7
	planDrop = 8

	errPair  api.Errno = 140
	errLevel api.Errno = 141

	mostLevel = 60

	fewest = math.MinInt
	most   = math.MaxInt
)

// Nodes.

// node is one of that kind and level, that may be: of a NodeCon with two parts, of a NodeCase whose second alternative takes these.
func node(kind, level int) api.Node {
	ports := map[int]int{root: 1, lam: 3, app: 3, fan: 3, open: 2, shut: 2, drop: 1, con: 3, kase: 5, num: 1, oper: 3, half: 2, fail: 1}
	x := api.Node{Kind: kind, Level: level, To: make([]api.Port, ports[kind])}
	switch kind {
	case con:
		x.Name = "Cons"
	case kase:
		x.Alts = []api.Arity{{Name: "Nil"}, {Name: "Cons", N: 2}, {Name: "Box", N: 1}}
	case num:
		x.N = 5
	case oper:
		x.Name = "-"
	case half:
		x.Name, x.N = "-", 12
	}
	return x
}

func number(n int) api.Node { return api.Node{Kind: num, N: n, To: make([]api.Port, 1)} }

func cons(name string, parts int) api.Node {
	return api.Node{Kind: con, Name: name, To: make([]api.Port, parts+1)}
}

func caseOf(alts ...api.Arity) api.Node {
	return api.Node{Kind: kase, Alts: alts, To: make([]api.Port, len(alts)+2)}
}

func halfOf(name string, n int) api.Node {
	return api.Node{Kind: half, Name: name, N: n, To: make([]api.Port, 2)}
}

func at(level int, x api.Node) api.Node {
	x.Level = level
	return x
}

func pick[T any](r *rand.Rand, l ...T) T { return l[r.Intn(len(l))] }

// likely is a node that may be, of a Kind that does something, with few names, so that some fit each other.
func likely(r *rand.Rand) api.Node {
	x := node(2+r.Intn(12), pick(r, 0, 1, 2, 2, 30, 58, 59, 60, 60))
	switch x.Kind {
	case con:
		x.Name, x.To = pick(r, "A", "B"), make([]api.Port, 1+r.Intn(2))
	case kase:
		x.Alts = nil
		for _, name := range []string{"A", "B", "C"}[r.Intn(2):] {
			x.Alts = append(x.Alts, api.Arity{Name: name, N: r.Intn(2)})
		}
		r.Shuffle(len(x.Alts), func(i, j int) { x.Alts[i], x.Alts[j] = x.Alts[j], x.Alts[i] })
		x.To = make([]api.Port, 2+len(x.Alts))
	case num:
		x.N = pick(r, 0, 0, 1, -1, 7, most, fewest)
	case oper, half:
		x.Name = pick(r, "+", "-", "*", "/", "/", "<", "==")
		if x.Kind == half {
			x.N = pick(r, 0, 1, -1, 7, most, fewest)
		}
	}
	for i := range x.To {
		x.To[i] = anyPort(r)
	}
	return x
}

func anyPort(r *rand.Rand) api.Port {
	return api.Port{Node: pick(r, 0, 1, 2, 9, -1, most, fewest), Slot: pick(r, 0, 0, 1, 2, 9, -1, most, fewest)}
}

// wild is a node that has anything, but that its levels do not turn round.
func wild(r *rand.Rand) api.Node {
	x := api.Node{
		Kind:  pick(r, -1, 14, most, fewest, r.Intn(14), r.Intn(14), r.Intn(14), r.Intn(14), r.Intn(14), 4+r.Intn(3), 8+r.Intn(5)),
		Level: pick(r, 0, 0, 1, 2, 59, 60, 61, 62, 63, 1000, -1, -2, most, most-1, fewest, fewest+1),
		N:     pick(r, 0, 1, -1, most, fewest),
		Name:  pick(r, "", "A", "A", "+", "/", "<", "==", "let", "\x00"),
	}
	for range r.Intn(4) {
		x.Alts = append(x.Alts, api.Arity{Name: pick(r, "", "A", "A", "\x00"), N: pick(r, 0, 1, 2, -2, 9, most, fewest)})
	}
	for range r.Intn(4) {
		x.To = append(x.To, anyPort(r))
	}
	return x
}

// copied is x, of which no list and no name is x's.
func copied(x api.Node) api.Node {
	x.Name = strings.Clone(x.Name)
	x.To = slices.Clone(x.To)
	var alts []api.Arity
	for _, a := range x.Alts {
		alts = append(alts, api.Arity{Name: strings.Clone(a.Name), N: a.N})
	}
	x.Alts = alts
	return x
}

func sameNode(a, b api.Node) bool {
	return a.Kind == b.Kind && a.Level == b.Level && a.N == b.N && a.Name == b.Name && slices.Equal(a.Alts, b.Alts) && slices.Equal(a.To, b.To)
}

func same(a, b api.Plan) bool {
	return a.Kind == b.Kind && a.Swap == b.Swap && a.Level == b.Level && a.Alt == b.Alt && sameNode(a.Node, b.Node)
}

// told is x as a failure tells it: no more than its first bytes.
func told(x any) string {
	s := fmt.Sprintf("%+q", fmt.Sprint(x))
	if len(s) > 300 {
		s = s[:300] + ".."
	}
	return s
}

// The promises, read otherwise: rule by rule, each asked of both nodes as the one that is named first.

// known are the Kinds that rule 1 leaves.
func known() []int { return append(slices.Concat(controls(), asks(), tells()), drop) }

func controls() []int { return []int{fan, open, shut} }
func asks() []int     { return []int{app, kase, oper, half} }
func tells() []int    { return []int{lam, con, num, fail} }

func readOf(a, b api.Node) (api.Plan, api.Errno) {
	if !slices.Contains(known(), a.Kind) || !slices.Contains(known(), b.Kind) {
		return api.Plan{}, errPair
	}
	for _, one := range []func(x, y api.Node) (api.Plan, api.Errno, bool){readDrop, readControls, readControl, readAnswer} {
		if p, e, holds := one(a, b); holds {
			return p, e
		}
		if p, e, holds := one(b, a); holds {
			p.Swap = e == api.OK
			return p, e
		}
	}
	return api.Plan{}, errPair
}

func readDrop(x, y api.Node) (api.Plan, api.Errno, bool) {
	return api.Plan{Kind: planDrop}, api.OK, x.Kind == drop
}

func readControls(x, y api.Node) (api.Plan, api.Errno, bool) {
	if !slices.Contains(controls(), x.Kind) || !slices.Contains(controls(), y.Kind) || x.Level > y.Level {
		return api.Plan{}, api.OK, false
	}
	switch {
	case x.Level < y.Level:
		return readControl(x, y)
	case x.Kind == y.Kind:
		return api.Plan{Kind: planJoin}, api.OK, true
	}
	return api.Plan{}, errPair, true
}

func readControl(x, y api.Node) (api.Plan, api.Errno, bool) {
	if !slices.Contains(controls(), x.Kind) {
		return api.Plan{}, api.OK, false
	}
	level := big.NewInt(int64(y.Level))
	by := map[int]int64{fan: 0, open: -1, shut: 1}[x.Kind]
	level.Add(level, big.NewInt(by))
	switch {
	case !(x.Level < y.Level):
		return api.Plan{}, errPair, true
	case level.Cmp(big.NewInt(mostLevel)) > 0:
		return api.Plan{}, errLevel, true
	}
	return api.Plan{Kind: planPass, Level: int(level.Int64())}, api.OK, true
}

func readAnswer(x, y api.Node) (api.Plan, api.Errno, bool) {
	if !slices.Contains(asks(), x.Kind) || !slices.Contains(tells(), y.Kind) {
		return api.Plan{}, api.OK, false
	}
	unlike := x.Level != y.Level
	p := api.Plan{Kind: planFail}
	switch fmt.Sprint(x.Kind, y.Kind) {
	case "3 2":
		if unlike {
			return api.Plan{}, errPair, true
		}
		p.Kind = planBeta
	case "9 8":
		if unlike {
			return api.Plan{}, errPair, true
		}
		for i := len(x.Alts) - 1; i >= 0; i-- {
			if x.Alts[i].Name == y.Name && x.Alts[i].N+1 == len(y.To) {
				p.Kind, p.Alt = planPick, i
			}
		}
	case "11 10":
		p.Kind = planHalf
	case "12 10":
		if result, is := readResult(x.Name, x.N, y.N); is {
			p.Kind, p.Node = planOut, at(x.Level, result)
		}
	}
	return p, api.OK, true
}

// readResult is what head.Step tells of two numbers.
func readResult(name string, a, b int) (api.Node, bool) {
	if !slices.Contains([]string{"+", "-", "*", "/", "<", "=="}, name) {
		return number(0), true
	}
	l := []api.Term{{Kind: api.CoreInt, N: a}, {Kind: api.CoreInt, N: b}}
	t, what := head.Step(api.Term{Kind: api.CoreOp, Name: name, L: l})
	switch {
	case what == api.StepFail:
		return api.Node{}, false
	case t.Kind == api.CoreCon:
		return cons(t.Name, 0), true
	}
	return number(t.N), true
}

// readNeed counts the nodes that chapter 15 makes, one by one.
func readNeed(p api.Plan, a, b api.Node) int {
	x, y := a, b
	if p.Swap {
		x, y = b, a
	}
	made := 0
	makeOne := func() { made++ }
	forPorts := func(x api.Node, from int) {
		for i := range x.To {
			if i >= from {
				makeOne()
			}
		}
	}
	switch p.Kind {
	case planPick:
		for i, alt := range x.Alts {
			if i == p.Alt {
				return alt.N + len(x.Alts) - 1
			}
		}
	case planHalf, planOut:
		makeOne()
	case planFail:
		makeOne()
		forPorts(x, 2)
		forPorts(y, 1)
	case planPass:
		makeOne()
		if x.Kind == fan {
			makeOne()
		}
		forPorts(y, 1)
	case planDrop:
		forPorts(y, 1)
	}
	return made
}

// Checks.

func check(t *testing.T, a, b api.Node, want api.Plan, e api.Errno) {
	t.Helper()
	if got, err := rule.Of(a, b); err != e || !same(got, want) {
		t.Errorf("Of(%s, %s): %s, %d; want %s, %d", told(a), told(b), told(got), err, told(want), e)
	}
}

// checkBoth asks for the plan of x and y, and for that with Swap of y and x.
func checkBoth(t *testing.T, x, y api.Node, want api.Plan) {
	t.Helper()
	check(t, x, y, want, api.OK)
	want.Swap = true
	check(t, y, x, want, api.OK)
}

func refused(t *testing.T, a, b api.Node, e api.Errno) {
	t.Helper()
	check(t, a, b, api.Plan{}, e)
	check(t, b, a, api.Plan{}, e)
}

func checkNeed(t *testing.T, p api.Plan, a, b api.Node, want int) {
	t.Helper()
	if got := rule.Need(p, a, b); got != want {
		t.Errorf("Need(%s, %s, %s): %d; want %d", told(p), told(a), told(b), got, want)
	}
}

// checkRead holds all that is told of two nodes against the promises' reading.
func checkRead(t *testing.T, a, b api.Node) {
	t.Helper()
	want, e := readOf(a, b)
	check(t, a, b, want, e)
	checkNeed(t, want, a, b, readNeed(want, a, b))
}

// P14.1, each Kind with each other one. A row is a's Kind, from 0 to 14, a place in it b's.
// What they do: B beta, C an alternative is taken, H an operator has its left number, O it has both, F fail, J join, P pass, D drop; a small letter: with Swap; a dot: refused.

func ofOneLevel() []string {
	return []string{
		"...............",
		"...............",
		"...b...d.f.ff..",
		"..B....dF.F..F.",
		"....J..d.......",
		".....J.d.......",
		"......Jd.......",
		"..DDDDDDDDDDDD.",
		"...f...d.c.ff..",
		"..F....dC.F..F.",
		"...f...d.f.ho..",
		"..F....dF.H..F.",
		"..F....dF.O..F.",
		"...f...d.f.ff..",
		"...............",
	}
}

// ofUnlike is of an a whose Level is below b's.
func ofUnlike() []string {
	return []string{
		"...............",
		"...............",
		".......d.f.ff..",
		".......dF.F..F.",
		"..PPPPPdPPPPPP.",
		"..PPPPPdPPPPPP.",
		"..PPPPPdPPPPPP.",
		"..DDDDDDDDDDDD.",
		"...f...d...ff..",
		"..F....d..F..F.",
		"...f...d.f.ho..",
		"..F....dF.H..F.",
		"..F....dF.O..F.",
		"...f...d.f.ff..",
		"...............",
	}
}

// ofUnlikeBack is of an a whose Level is above b's.
func ofUnlikeBack() []string {
	return []string{
		"...............",
		"...............",
		"....pppd.f.ff..",
		"....pppdF.F..F.",
		"....pppd.......",
		"....pppd.......",
		"....pppd.......",
		"..DDDDDDDDDDDD.",
		"...fpppd...ff..",
		"..F.pppd..F..F.",
		"...fpppd.f.ho..",
		"..F.pppdF.H..F.",
		"..F.pppdF.O..F.",
		"...fpppd.f.ff..",
		"...............",
	}
}

// planOf is that of a letter of these tables, of nodes as node tells them.
func planOf(letter byte, x, y api.Node) api.Plan {
	small := letter >= 'a' && letter <= 'z'
	if small {
		letter -= 'a' - 'A'
		x, y = y, x
	}
	p := api.Plan{Swap: small}
	switch letter {
	case 'B':
		p.Kind = planBeta
	case 'C':
		p.Kind, p.Alt = planPick, 1
	case 'H':
		p.Kind = planHalf
	case 'O':
		p.Kind, p.Node = planOut, at(x.Level, number(7))
	case 'F':
		p.Kind = planFail
	case 'J':
		p.Kind = planJoin
	case 'P':
		p.Kind, p.Level = planPass, y.Level+map[int]int{fan: 0, open: -1, shut: 1}[x.Kind]
	case 'D':
		p.Kind = planDrop
	}
	return p
}

func checkTable(t *testing.T, table []string, levels ...[2]int) {
	t.Helper()
	for _, l := range levels {
		for i, row := range table {
			for j := range row {
				a, b := node(i, l[0]), node(j, l[1])
				if row[j] == '.' {
					check(t, a, b, api.Plan{}, errPair)
					continue
				}
				check(t, a, b, planOf(row[j], a, b), api.OK)
			}
		}
	}
}

func TestKindsOfOneLevel(t *testing.T) {
	checkTable(t, ofOneLevel(), [2]int{0, 0}, [2]int{1, 1}, [2]int{7, 7}, [2]int{60, 60})
}

func TestKindsOfUnlikeLevels(t *testing.T) {
	checkTable(t, ofUnlike(), [2]int{0, 1}, [2]int{1, 2}, [2]int{0, 59}, [2]int{58, 59})
	checkTable(t, ofUnlikeBack(), [2]int{1, 0}, [2]int{2, 1}, [2]int{59, 0}, [2]int{59, 58})
}

func TestExample(t *testing.T) {
	checkBoth(t, node(app, 3), node(lam, 3), api.Plan{Kind: planBeta})
}

// Rule 1.

func TestKindsThatAreNotThere(t *testing.T) {
	for _, kind := range []int{none, root, 14, 15, 99, -1, -7, most, fewest} {
		for other := range 15 {
			for _, l := range [][2]int{{0, 0}, {0, 1}, {1, 0}, {0, 60}} {
				refused(t, at(l[0], node(kind, 0)), node(other, l[1]), errPair)
			}
		}
		refused(t, node(kind, 0), node(kind, 0), errPair)
	}
	refused(t, api.Node{}, api.Node{}, errPair)
}

// Rule 2.

func TestWhatIsDropped(t *testing.T) {
	for _, kind := range known() {
		for _, l := range [][2]int{{0, 0}, {0, 60}, {60, 0}, {60, 60}, {-5, 99}, {most, fewest}} {
			x, y := node(drop, l[0]), node(kind, l[1])
			if kind == drop {
				// Both could be named first: the first one is.
				check(t, x, y, api.Plan{Kind: planDrop}, api.OK)
				check(t, y, x, api.Plan{Kind: planDrop}, api.OK)
				continue
			}
			checkBoth(t, x, y, api.Plan{Kind: planDrop})
		}
	}
}

// Rule 3.

func TestControlsOfOneLevel(t *testing.T) {
	for level := range mostLevel + 1 {
		for _, a := range controls() {
			for _, b := range controls() {
				if a == b {
					check(t, node(a, level), node(b, level), api.Plan{Kind: planJoin}, api.OK)
					continue
				}
				check(t, node(a, level), node(b, level), api.Plan{}, errPair)
			}
		}
	}
}

// TestControlsOfUnlikeLevels: the one of the lesser level goes through the other one, whatever Kinds both are of.
func TestControlsOfUnlikeLevels(t *testing.T) {
	for less := range mostLevel {
		for level := less + 1; level < mostLevel; level++ {
			for _, kind := range controls() {
				checkBoth(t, node(fan, less), node(kind, level), api.Plan{Kind: planPass, Level: level})
				checkBoth(t, node(open, less), node(kind, level), api.Plan{Kind: planPass, Level: level - 1})
				checkBoth(t, node(shut, less), node(kind, level), api.Plan{Kind: planPass, Level: level + 1})
			}
		}
	}
}

// Rule 4.

func TestWhatControlsGoThrough(t *testing.T) {
	for _, kind := range slices.Concat(asks(), tells()) {
		for x := range mostLevel + 1 {
			for y := range mostLevel {
				if x >= y {
					for _, c := range controls() {
						refused(t, node(c, x), node(kind, y), errPair)
					}
					continue
				}
				checkBoth(t, node(fan, x), node(kind, y), api.Plan{Kind: planPass, Level: y})
				checkBoth(t, node(open, x), node(kind, y), api.Plan{Kind: planPass, Level: y - 1})
				checkBoth(t, node(shut, x), node(kind, y), api.Plan{Kind: planPass, Level: y + 1})
			}
		}
	}
}

// TestTheGreatestLevel: a level is refused just where it would be above that.
func TestTheGreatestLevel(t *testing.T) {
	for _, kind := range slices.Concat(controls(), asks(), tells()) {
		for _, level := range []int{0, 1, 30, 59} {
			y := node(kind, mostLevel)
			checkBoth(t, node(fan, level), y, api.Plan{Kind: planPass, Level: 60})
			checkBoth(t, node(open, level), y, api.Plan{Kind: planPass, Level: 59})
			refused(t, node(shut, level), y, errLevel)
		}
		if !slices.Contains(controls(), kind) {
			// That it is not below comes first.
			refused(t, node(shut, 60), node(kind, 60), errPair)
			refused(t, node(shut, 61), node(kind, 60), errPair)
		}
	}
}

func TestLevelsThatAreNotThere(t *testing.T) {
	y := node(app, 61)
	refused(t, node(shut, 0), y, errLevel)
	refused(t, node(shut, 60), y, errLevel)
	refused(t, node(shut, 61), y, errPair)
	check(t, node(open, 0), y, api.Plan{Kind: planPass, Level: 60}, api.OK)
	// One more than the greatest number is above the bound, too.
	refused(t, node(shut, 0), node(lam, most), errLevel)
	refused(t, node(shut, most), node(lam, most), errPair)
	// Below 0 there is no bound.
	checkBoth(t, node(fan, -2), node(lam, -1), api.Plan{Kind: planPass, Level: -1})
	checkBoth(t, node(open, -2), node(lam, -1), api.Plan{Kind: planPass, Level: -2})
	checkBoth(t, node(shut, -2), node(shut, -1), api.Plan{Kind: planPass, Level: 0})
	checkBoth(t, node(open, fewest), node(lam, fewest+1), api.Plan{Kind: planPass, Level: fewest})
	refused(t, node(open, fewest), node(lam, fewest), errPair)
	check(t, node(open, fewest), node(open, fewest), api.Plan{Kind: planJoin}, api.OK)
	checkBoth(t, node(app, -9), node(lam, -9), api.Plan{Kind: planBeta})
	checkBoth(t, node(app, most), node(lam, most), api.Plan{Kind: planBeta})
	refused(t, node(app, most), node(lam, fewest), errPair)
}

// Rule 5.

func TestTwoThatAskOrAreTold(t *testing.T) {
	for _, l := range [][]int{asks(), tells()} {
		for _, a := range l {
			for _, b := range l {
				for _, levels := range [][2]int{{0, 0}, {3, 3}, {0, 1}, {60, 0}} {
					refused(t, node(a, levels[0]), node(b, levels[1]), errPair)
				}
			}
		}
	}
}

func TestLevelsOfWhatIsAsked(t *testing.T) {
	for x := range mostLevel + 1 {
		for y := range mostLevel + 1 {
			if x != y {
				refused(t, node(app, x), node(lam, y), errPair)
				refused(t, node(kase, x), node(con, y), errPair)
				// One that has no alternative for it as well.
				refused(t, at(x, caseOf(api.Arity{Name: "A"})), at(y, cons("B", 0)), errPair)
			} else {
				checkBoth(t, node(app, x), node(lam, y), api.Plan{Kind: planBeta})
				checkBoth(t, node(kase, x), node(con, y), api.Plan{Kind: planPick, Alt: 1})
			}
			// No other levels are looked at.
			checkBoth(t, node(oper, x), node(num, y), api.Plan{Kind: planHalf})
			checkBoth(t, node(half, x), node(num, y), api.Plan{Kind: planOut, Node: at(x, number(7))})
			checkBoth(t, node(app, x), node(con, y), api.Plan{Kind: planFail})
			checkBoth(t, node(half, x), node(fail, y), api.Plan{Kind: planFail})
		}
	}
}

func TestAlternatives(t *testing.T) {
	x := caseOf(api.Arity{Name: "A"}, api.Arity{Name: "B", N: 2}, api.Arity{Name: "C", N: 8}, api.Arity{Name: "D", N: 1}, api.Arity{Name: "E"}, api.Arity{Name: "F", N: 3}, api.Arity{Name: "G"}, api.Arity{Name: "H", N: 1})
	for _, c := range []struct {
		name       string
		parts, alt int
	}{{"A", 0, 0}, {"B", 2, 1}, {"C", 8, 2}, {"D", 1, 3}, {"E", 0, 4}, {"F", 3, 5}, {"G", 0, 6}, {"H", 1, 7}} {
		checkBoth(t, x, cons(c.name, c.parts), api.Plan{Kind: planPick, Alt: c.alt})
		for parts := range 12 {
			if parts != c.parts {
				checkBoth(t, x, cons(c.name, parts), api.Plan{Kind: planFail})
			}
		}
	}
	for _, name := range []string{"I", "a", "AA", "", "A ", "True"} {
		for parts := range 10 {
			checkBoth(t, x, cons(name, parts), api.Plan{Kind: planFail})
		}
	}
}

func TestTheFirstAlternative(t *testing.T) {
	twins := caseOf(api.Arity{Name: "B"}, api.Arity{Name: "A", N: 1}, api.Arity{Name: "A"}, api.Arity{Name: "A", N: 1}, api.Arity{Name: "A"}, api.Arity{Name: "B"})
	checkBoth(t, twins, cons("A", 0), api.Plan{Kind: planPick, Alt: 2})
	checkBoth(t, twins, cons("A", 1), api.Plan{Kind: planPick, Alt: 1})
	checkBoth(t, twins, cons("B", 0), api.Plan{Kind: planPick})
	checkBoth(t, twins, cons("A", 2), api.Plan{Kind: planFail})
}

func TestAlternativesThatMayNotBe(t *testing.T) {
	checkBoth(t, caseOf(), cons("A", 0), api.Plan{Kind: planFail})
	checkBoth(t, caseOf(api.Arity{}), cons("", 0), api.Plan{Kind: planPick})
	checkBoth(t, caseOf(api.Arity{N: -1}, api.Arity{N: most}, api.Arity{N: fewest}), cons("", 0), api.Plan{Kind: planFail})
	// Without a port a constructor does not even have none.
	checkBoth(t, caseOf(api.Arity{Name: "A"}), api.Node{Kind: con, Name: "A"}, api.Plan{Kind: planFail})
	var many []api.Arity
	for i := range 300 {
		many = append(many, api.Arity{Name: "A", N: i})
	}
	checkBoth(t, caseOf(many...), cons("A", 299), api.Plan{Kind: planPick, Alt: 299})
	checkBoth(t, caseOf(many...), cons("A", 300), api.Plan{Kind: planFail})
	// How many ports the case has is not looked at, nor what an alternative of another Kind has.
	x := caseOf(api.Arity{Name: "A"})
	x.To = nil
	checkBoth(t, x, cons("A", 0), api.Plan{Kind: planPick})
	y := cons("B", 0)
	y.Alts, y.N = []api.Arity{{Name: "A"}}, 9
	checkBoth(t, caseOf(api.Arity{Name: "A"}), y, api.Plan{Kind: planFail})
}

// ends are numbers near to those at which something turns round, or is cut off.
func ends() []int {
	var l []int
	for _, n := range []int{fewest, -1 << 32, 0, 1 << 31, 3037000500, 1 << 62, most} {
		for by := -2; by <= 2; by++ {
			l = append(l, n+by)
		}
	}
	return l
}

func out(result api.Node) api.Plan { return api.Plan{Kind: planOut, Node: result} }

func TestOperators(t *testing.T) {
	for _, c := range []struct {
		name    string
		a, b, n int
	}{
		{"+", 2, 3, 5}, {"+", -2, 2, 0}, {"+", most, 1, fewest}, {"+", fewest, fewest, 0}, {"+", fewest, -1, most},
		{"-", 2, 3, -1}, {"-", 0, fewest, fewest}, {"-", fewest, 1, most}, {"-", most, -1, fewest},
		{"*", -2, 3, -6}, {"*", 1 << 62, 4, 0}, {"*", 1 << 62, 2, fewest}, {"*", fewest, -1, fewest}, {"*", most, most, 1},
		{"/", 7, 2, 3}, {"/", -7, 2, -3}, {"/", 7, -2, -3}, {"/", -7, -2, 3}, {"/", 0, 5, 0}, {"/", 1, 2, 0}, {"/", fewest, -1, fewest}, {"/", fewest, most, -1}, {"/", most, 1, most},
	} {
		checkBoth(t, halfOf(c.name, c.a), number(c.b), out(number(c.n)))
	}
	for i, c := range []struct{ a, b int }{{2, 3}, {-3, 2}, {-1, 0}, {fewest, most}, {most - 1, most}, {1 << 62, 1<<62 + 1}} {
		less, more := at(i, number(c.a)), at(i, number(c.b))
		for name, words := range map[string][3]string{"<": {"True", "False", "False"}, "==": {"False", "True", "False"}} {
			checkBoth(t, halfOf(name, c.a), more, out(cons(words[0], 0)))
			checkBoth(t, halfOf(name, c.a), less, out(cons(words[1], 0)))
			checkBoth(t, halfOf(name, c.b), less, out(cons(words[2], 0)))
		}
	}
	for _, a := range []int{0, 1, -1, most, fewest} {
		checkBoth(t, halfOf("/", a), number(0), api.Plan{Kind: planFail})
	}
}

// TestOperatorsAsInSteps holds what comes out against head.Step, whatever levels there are.
func TestOperatorsAsInSteps(t *testing.T) {
	for i, name := range []string{"+", "-", "*", "/", "<", "=="} {
		for _, a := range ends() {
			for _, b := range ends() {
				want := api.Plan{Kind: planFail}
				if result, is := readResult(name, a, b); is {
					want = out(at(10*i, result))
				}
				checkBoth(t, at(10*i, halfOf(name, a)), at(60-10*i, number(b)), want)
			}
		}
	}
}

func TestOperatorsThatAreNotThere(t *testing.T) {
	for _, name := range []string{"", "=", "<=", ">", "//", "+ ", "++", "%", "->", "plus", "True", "\x00"} {
		for _, b := range []int{0, 1, -1, most, fewest} {
			checkBoth(t, at(4, halfOf(name, 9)), number(b), out(at(4, number(0))))
		}
		x := node(oper, 4)
		x.Name = name
		checkBoth(t, x, number(0), api.Plan{Kind: planHalf})
	}
	// A left number is not looked at where there is no right one.
	for _, kind := range []int{lam, con, fail} {
		checkBoth(t, halfOf("/", 0), node(kind, 0), api.Plan{Kind: planFail})
	}
}

// TestWhatIsNotLookedAt: To, but for how many of a NodeCon there are, and fields of other Kinds do not matter.
func TestWhatIsNotLookedAt(t *testing.T) {
	t.Parallel()
	r := rand.New(rand.NewSource(1))
	for range 40000 {
		a, b := likely(r), likely(r)
		want, e := rule.Of(a, b)
		check(t, blurred(r, a), blurred(r, b), want, e)
	}
}

// blurred is x with anything where nothing is told of it.
func blurred(r *rand.Rand, x api.Node) api.Node {
	y := wild(r)
	y.Kind, y.Level = x.Kind, x.Level
	switch x.Kind {
	case con:
		y.Name, y.To = x.Name, make([]api.Port, len(x.To))
		for i := range y.To {
			y.To[i] = anyPort(r)
		}
	case kase:
		y.Alts = x.Alts
	case num:
		y.N = x.N
	case half:
		y.Name, y.N = x.Name, x.N
	}
	return y
}

// P14.2.

func TestNeedOfPick(t *testing.T) {
	x, y := caseOf(api.Arity{Name: "A"}, api.Arity{Name: "B", N: 3}, api.Arity{Name: "C", N: 8}), cons("B", 3)
	for alt, want := range []int{2, 5, 10} {
		checkNeed(t, api.Plan{Kind: planPick, Alt: alt}, x, y, want)
		checkNeed(t, api.Plan{Kind: planPick, Alt: alt, Swap: true}, y, x, want)
		// The other one has no alternatives.
		checkNeed(t, api.Plan{Kind: planPick, Alt: alt, Swap: true}, x, y, 0)
		checkNeed(t, api.Plan{Kind: planPick, Alt: alt}, y, x, 0)
	}
	for _, alt := range []int{3, 4, -1, -3, most, fewest} {
		checkNeed(t, api.Plan{Kind: planPick, Alt: alt}, x, y, 0)
		checkNeed(t, api.Plan{Kind: planPick, Alt: alt, Swap: true}, y, x, 0)
	}
	checkNeed(t, api.Plan{Kind: planPick}, caseOf(api.Arity{Name: "A"}), cons("A", 0), 0)
	checkNeed(t, api.Plan{Kind: planPick}, caseOf(), y, 0)
	// Kinds, names, levels and parts are not asked.
	x.Kind, x.Level, x.To = num, -4, nil
	checkNeed(t, api.Plan{Kind: planPick, Alt: 1}, x, api.Node{}, 5)
}

func TestNeedOfOperators(t *testing.T) {
	for _, kind := range []int{planHalf, planOut} {
		for _, swap := range []bool{false, true} {
			p := api.Plan{Kind: kind, Swap: swap}
			checkNeed(t, p, node(oper, 0), number(3), 1)
			checkNeed(t, p, node(half, 0), number(3), 1)
			checkNeed(t, p, api.Node{}, api.Node{}, 1)
			checkNeed(t, p, node(con, 0), node(kase, 0), 1)
		}
	}
}

// TestNeedByPorts: ports are told by To, whatever the Kinds are.
func TestNeedByPorts(t *testing.T) {
	for x := range 12 {
		for y := range 12 {
			for _, kind := range []int{none, lam, app, fan, open, shut, kase, num, 14, -1} {
				a, b := api.Node{Kind: kind, To: make([]api.Port, x)}, api.Node{Kind: con, To: make([]api.Port, y)}
				othersX, othersY := max(0, x-1), max(0, y-1)
				through := 1
				if kind == fan {
					through = 2
				}
				for plan, want := range map[int]int{
					planFail: 1 + max(0, othersX-1) + othersY,
					planPass: through + othersY,
					planDrop: othersY,
				} {
					checkNeed(t, api.Plan{Kind: plan}, a, b, want)
					checkNeed(t, api.Plan{Kind: plan, Swap: true}, b, a, want)
				}
			}
		}
	}
	// A fan that is gone through is one node like others.
	checkNeed(t, api.Plan{Kind: planPass}, node(open, 0), node(fan, 1), 3)
	checkNeed(t, api.Plan{Kind: planPass}, node(fan, 0), node(fan, 1), 4)
	checkNeed(t, api.Plan{Kind: planPass, Swap: true}, node(fan, 1), node(shut, 0), 3)
}

func TestNeedOfAllElse(t *testing.T) {
	for _, kind := range []int{planNone, planBeta, planJoin, 9, 10, -1, most, fewest} {
		for _, swap := range []bool{false, true} {
			for i := range 15 {
				for j := range 15 {
					checkNeed(t, api.Plan{Kind: kind, Swap: swap, Alt: 1, Level: 3}, node(i, 0), node(j, 0), 0)
				}
			}
		}
	}
}

// TestNeedOfWhatIsTold: of each two Kinds, as many as chapter 15 makes.
func TestNeedOfWhatIsTold(t *testing.T) {
	for _, c := range []struct {
		x, y api.Node
		want int
	}{
		{node(app, 1), node(lam, 1), 0},
		{node(kase, 1), node(con, 1), 4},
		{node(kase, 1), at(1, cons("Cons", 3)), 1 + 3 + 3},
		{node(kase, 1), node(lam, 1), 1 + 3 + 2},
		{node(app, 1), node(con, 1), 1 + 1 + 2},
		{node(app, 1), node(num, 1), 1 + 1},
		{node(oper, 1), node(num, 1), 1},
		{node(oper, 1), node(lam, 1), 1 + 1 + 2},
		{node(half, 1), node(num, 1), 1},
		{halfOf("/", 1), number(0), 1},
		{node(half, 1), node(con, 1), 1 + 0 + 2},
		{node(fan, 1), node(fan, 1), 0},
		{node(shut, 1), node(shut, 1), 0},
		{node(fan, 0), node(lam, 1), 2 + 2},
		{node(fan, 0), node(num, 1), 2},
		{node(open, 0), node(kase, 1), 1 + 4},
		{node(shut, 0), node(open, 1), 1 + 1},
		{node(drop, 0), node(kase, 1), 4},
		{node(drop, 0), node(drop, 1), 0},
		{node(drop, 0), node(fan, 1), 2},
		{node(root, 0), node(fan, 1), 0},
	} {
		for _, l := range [][2]api.Node{{c.x, c.y}, {c.y, c.x}} {
			p, _ := rule.Of(l[0], l[1])
			checkNeed(t, p, l[0], l[1], c.want)
		}
	}
}

func TestNeedOfAnything(t *testing.T) {
	t.Parallel()
	r := rand.New(rand.NewSource(2))
	for range 60000 {
		p := api.Plan{
			Kind:  pick(r, 0, 1, 2, 2, 2, 3, 4, 5, 5, 6, 7, 7, 8, 9, -1, most, fewest),
			Swap:  r.Intn(2) == 0,
			Alt:   pick(r, 0, 0, 1, 2, 3, -1, most, fewest),
			Level: pick(r, 0, 60, -1, most),
			Node:  wild(r),
		}
		a, b := wild(r), wild(r)
		checkNeed(t, p, a, b, readNeed(p, a, b))
	}
}

// P14.3: it does not matter which one is a, but for Swap.

func TestWhichOneIsA(t *testing.T) {
	t.Parallel()
	r := rand.New(rand.NewSource(3))
	for i := range 60000 {
		a, b := likely(r), likely(r)
		if i%3 == 0 {
			a, b = wild(r), wild(r)
		}
		p, e := rule.Of(a, b)
		q, f := rule.Of(b, a)
		// Both could be named first just where both are dropped, or end each other.
		both := e != api.OK || p.Kind == planJoin || p.Kind == planDrop && a.Kind == drop && b.Kind == drop
		turned := p
		turned.Swap = !p.Swap && !both
		if e != f || !same(q, turned) || both && p.Swap {
			t.Errorf("Of(%s, %s): %s, %d; and back: %s, %d", told(a), told(b), told(p), e, told(q), f)
		}
		// Two that are dropped may have unlike ports just if they may not be.
		if !both || i%3 != 0 {
			checkNeed(t, q, b, a, rule.Need(p, a, b))
		}
	}
}

// Nodes of any sort.

func TestNodesThatMayBe(t *testing.T) {
	t.Parallel()
	r := rand.New(rand.NewSource(4))
	plans, errors := map[int]int{}, map[api.Errno]int{}
	for range 200000 {
		a, b := likely(r), likely(r)
		checkRead(t, a, b)
		p, e := rule.Of(a, b)
		plans[p.Kind]++
		errors[e]++
	}
	for kind := planNone; kind <= planDrop; kind++ {
		if plans[kind] < 100 {
			t.Error("some are few", plans)
		}
	}
	if errors[api.OK] < 1000 || errors[errPair] < 1000 || errors[errLevel] < 100 || len(errors) != 3 {
		t.Error("some are few", errors)
	}
}

func TestWildNodes(t *testing.T) {
	t.Parallel()
	r := rand.New(rand.NewSource(5))
	for range 200000 {
		checkRead(t, wild(r), wild(r))
	}
}

// TestAllSmallNodes takes each two Kinds, of few levels, names, parts and alternatives.
func TestAllSmallNodes(t *testing.T) {
	t.Parallel()
	var all []api.Node
	for kind := -1; kind <= 14; kind++ {
		for _, level := range []int{0, 1, 2, 60} {
			for _, name := range []string{"", "A", "/"} {
				for ports := range 3 {
					x := api.Node{Kind: kind, Level: level, Name: name, N: ports, To: make([]api.Port, ports)}
					if kind == kase {
						x.Alts = []api.Arity{{Name: "A", N: ports}, {Name: "/", N: 1}}[:1+ports%2]
					}
					all = append(all, x)
				}
			}
		}
	}
	for _, a := range all {
		for _, b := range all {
			checkRead(t, a, b)
		}
	}
}

// P1, and the rules: every call ends, none panics; nothing is changed, shared or kept.

func TestLargeNodes(t *testing.T) {
	const large = 1 << 20
	x := caseOf(make([]api.Arity, large)...)
	name := strings.Repeat("A", large)
	x.Alts[large-1] = api.Arity{Name: name, N: large}
	y := cons(strings.Clone(name), large)
	checkBoth(t, x, y, api.Plan{Kind: planPick, Alt: large - 1})
	p, _ := rule.Of(y, x)
	checkNeed(t, p, y, x, large+large-1)
	y.Name = name[1:]
	checkBoth(t, x, y, api.Plan{Kind: planFail})
	checkNeed(t, api.Plan{Kind: planFail}, x, y, 1+large+large)
	checkNeed(t, api.Plan{Kind: planDrop}, x, y, large)
	checkNeed(t, api.Plan{Kind: planPass}, x, y, 1+large)
	checkBoth(t, halfOf(name, 3), number(0), out(number(0)))
}

func TestEmptyListsAndNilOnes(t *testing.T) {
	bare := func(x api.Node) api.Node { x.To, x.Alts = nil, nil; return x }
	empty := func(x api.Node) api.Node { x.To, x.Alts = []api.Port{}, []api.Arity{}; return x }
	for i := range 15 {
		for j := range 15 {
			for _, l := range [][2]int{{0, 0}, {0, 1}, {1, 0}} {
				a, b := node(i, l[0]), node(j, l[1])
				p, e := rule.Of(bare(a), bare(b))
				check(t, empty(a), empty(b), p, e)
				for kind := planNone; kind <= planDrop; kind++ {
					q := api.Plan{Kind: kind}
					checkNeed(t, q, empty(a), empty(b), rule.Need(q, bare(a), bare(b)))
				}
			}
		}
	}
}

// roomy is x, each of whose lists has room behind it.
func roomy(x api.Node) api.Node {
	x.Alts = append(make([]api.Arity, 0, len(x.Alts)+3), x.Alts...)
	x.To = append(make([]api.Port, 0, len(x.To)+3), x.To...)
	return x
}

// whole is x, each of whose lists goes on to the end of its room.
func whole(x api.Node) api.Node {
	x.Alts, x.To = x.Alts[:cap(x.Alts)], x.To[:cap(x.To)]
	return copied(x)
}

// spoil writes into all that p has.
func spoil(p api.Plan) {
	for i := range p.Node.To[:cap(p.Node.To)] {
		p.Node.To[:cap(p.Node.To)][i] = api.Port{Node: -77, Slot: -77}
	}
	for i := range p.Node.Alts[:cap(p.Node.Alts)] {
		p.Node.Alts[:cap(p.Node.Alts)][i] = api.Arity{Name: "spoilt", N: -77}
	}
}

func TestArgumentsAreLeft(t *testing.T) {
	t.Parallel()
	r := rand.New(rand.NewSource(6))
	for i := range 20000 {
		a, b := roomy(likely(r)), roomy(likely(r))
		if i%3 == 0 {
			a, b = roomy(wild(r)), roomy(wild(r))
		}
		wantA, wantB := copied(a), copied(b)
		behindA, behindB := whole(a), whole(b)
		p, _ := rule.Of(a, b)
		kept := p
		kept.Node = copied(p.Node)
		rule.Need(p, a, b)
		if !same(p, kept) {
			t.Errorf("%s was changed: %s", told(kept), told(p))
		}
		spoil(p)
		if !sameNode(a, wantA) || !sameNode(b, wantB) || !sameNode(whole(a), behindA) || !sameNode(whole(b), behindB) {
			t.Errorf("%s, %s were changed: %s, %s", told(wantA), told(wantB), told(a), told(b))
		}
	}
}

// lies tells where the ports of p's Node lie.
func lies(p api.Plan) uintptr { return uintptr(unsafe.Pointer(unsafe.SliceData(p.Node.To))) }

func TestAnswersAreNewMemory(t *testing.T) {
	for _, name := range []string{"+", "-", "*", "/", "<", "==", ""} {
		a, b := halfOf(name, 6), number(3)
		p, _ := rule.Of(a, b)
		q, _ := rule.Of(a, b)
		from := []uintptr{lies(p), lies(q), lies(api.Plan{Node: a}), lies(api.Plan{Node: b})}
		slices.Sort(from)
		if len(slices.Compact(from)) != 4 {
			t.Errorf("of %q memory is shared", name)
		}
		spoil(p)
		r, _ := rule.Of(a, b)
		if !same(q, r) {
			t.Errorf("of %q %s is kept: %s", name, told(q), told(r))
		}
	}
}

func TestNothingIsKept(t *testing.T) {
	r := rand.New(rand.NewSource(7))
	for range 5000 {
		a, b, c, d := likely(r), likely(r), wild(r), wild(r)
		for range 2 {
			checkRead(t, a, b)
			p, _ := rule.Of(a, b)
			spoil(p)
			checkRead(t, c, d)
			q, _ := rule.Of(c, d)
			spoil(q)
		}
	}
}

func TestCallsAtOneTime(t *testing.T) {
	r := rand.New(rand.NewSource(8))
	var all []api.Node
	for range 60 {
		all = append(all, likely(r), wild(r))
	}
	var wait sync.WaitGroup
	for range 8 {
		wait.Go(func() {
			for _, a := range all {
				for _, b := range all {
					checkRead(t, a, b)
				}
			}
		})
	}
	wait.Wait()
}
