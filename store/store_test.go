package store_test

import (
	"fmt"
	"math"
	"math/rand"
	"slices"
	"strconv"
	"strings"
	"sync"
	"testing"
	"unsafe"

	"gossamer/api"
	"gossamer/store"
)

// Kinds, errors and limits are written as numbers: the chapters tell them so.

const (
	none = 0
	root = 1
	lam  = 2
	app  = 3
	fan  = 4
	open = 5
	shut = 6
	drop = 7
	con  = 8
	kase = 9
	num  = 10
	op   = 11
	half = 12
	fail = 13

	errArg  api.Errno = 1
	errNet  api.Errno = 120
	errFull api.Errno = 121
	errNode api.Errno = 122

	mostNodes = 4000
	mostLevel = 60

	fewest = math.MinInt
	most   = math.MaxInt
)

// otherKinds are those that there are not.
func otherKinds() []int { return []int{14, 15, -1, -2, 256, 264, 265, 1 << 32, fewest, most} }

func alts(l ...any) []api.Arity {
	var made []api.Arity
	for i := 0; i < len(l); i += 2 {
		made = append(made, api.Arity{Name: l[i].(string), N: l[i+1].(int)})
	}
	return made
}

// manyAlts are so many, of unlike names.
func manyAlts(n int) []api.Arity {
	var l []api.Arity
	for i := range n {
		l = append(l, api.Arity{Name: "A" + strconv.Itoa(i), N: i % 9})
	}
	return l
}

// bare is a node of that kind, that may be, but for its To (of which a NodeCon has so many).
func bare(kind, wide int) api.Node {
	x := api.Node{Kind: kind}
	switch kind {
	case con:
		x.Name, x.To = "Cons", make([]api.Port, wide)
	case kase:
		x.Alts = manyAlts(wide)
	case op, half:
		x.Name = "+"
	}
	return x
}

// width is how many ports a node is to have: told by its kind, in a text.
func width(x api.Node) int {
	switch {
	case x.Kind < 0 || x.Kind > 13:
		return 0
	case x.Kind == con:
		return len(x.To)
	case x.Kind == kase:
		return 2 + len(x.Alts)
	}
	return int("01333221??1321"[x.Kind] - '0')
}

// star is a net whose root comes to x, that has as many ports as it is to have.
func star(x api.Node) api.Net { return starOf(x, width(x)) }

// starOf is a net with x as number 1, that has so many ports, whether it is to have so many or not. All is linked:
// x's principal port to the root, each other one to a NodeDrop; if x has none, the root to a NodeDrop.
func starOf(x api.Node, ports int) api.Net {
	x.To = make([]api.Port, ports)
	n := api.Net{Cap: mostNodes, Nodes: []api.Node{{Kind: root, To: make([]api.Port, 1)}, x}}
	dropped := func(p api.Port) {
		n.Nodes = append(n.Nodes, api.Node{Kind: drop, To: make([]api.Port, 1)})
		wire(n, p, port(len(n.Nodes)-1, 0))
	}
	if ports == 0 {
		dropped(port(0, 0))
		return n
	}
	wire(n, port(0, 0), port(1, 0))
	for i := 1; i < ports; i++ {
		dropped(port(1, i))
	}
	return n
}

func port(node, slot int) api.Port { return api.Port{Node: node, Slot: slot} }

// wire writes into n, which is the test's own.
func wire(n api.Net, p, q api.Port) {
	n.Nodes[p.Node].To[p.Slot] = q
	n.Nodes[q.Node].To[q.Slot] = p
}

func pick[T any](r *rand.Rand, l ...T) T { return l[r.Intn(len(l))] }

// likely is a node that may be, but for its To (of which a NodeCon has as many as it is to have).
func likely(r *rand.Rand) api.Node {
	x := bare(pick(r, lam, app, fan, open, shut, drop, con, kase, num, op, half, fail), 1+r.Intn(8))
	x.Level = pick(r, 0, 0, 1, 2, r.Intn(61), mostLevel)
	if x.Kind == num || x.Kind == half {
		x.N = pick(r, 0, 1, -7, most, fewest)
	}
	if x.Name != "" {
		x.Name = pick(r, "Nil", "Cons", "+", "==", "x", "\xff", strings.Repeat("A", 40))
	}
	return x
}

// net is one that may be: nodes with free places between, whose ports are linked at random.
func net(r *rand.Rand, size int) api.Net {
	n := api.Net{Nodes: []api.Node{{Kind: root, To: make([]api.Port, 1)}}}
	for range size {
		x := likely(r)
		if r.Intn(4) == 0 {
			x = api.Node{}
		}
		x.To = make([]api.Port, width(x))
		n.Nodes = append(n.Nodes, x)
	}
	var all []api.Port
	for at, x := range n.Nodes {
		for slot := range x.To {
			all = append(all, port(at, slot))
		}
	}
	if len(n.Nodes[len(n.Nodes)-1].To) == 0 || len(all)%2 == 1 {
		// One that makes the ports even, and is no free place.
		kind := pick(r, drop, num, fail)
		if len(all)%2 == 0 {
			kind = pick(r, open, shut)
		}
		x := api.Node{Kind: kind}
		x.To = make([]api.Port, width(x))
		for slot := range x.To {
			all = append(all, port(len(n.Nodes), slot))
		}
		n.Nodes = append(n.Nodes, x)
	}
	r.Shuffle(len(all), func(i, j int) { all[i], all[j] = all[j], all[i] })
	for i := 0; i < len(all); i += 2 {
		wire(n, all[i], all[i+1])
	}
	n.Cap = len(n.Nodes) + pick(r, 0, 0, 1, 5, mostNodes-len(n.Nodes))
	return n
}

// wildNode is one that has anything.
func wildNode(r *rand.Rand) api.Node {
	x := api.Node{
		Kind:  pick(r, 0, 0, 1, 2, 3, 4, 5, 6, 7, 8, 8, 9, 9, 10, 11, 12, 13, 14, -1, most, fewest),
		Level: pick(r, 0, 0, 0, 0, 1, 59, 60, 61, -1, most, fewest),
		N:     pick(r, 0, 0, 0, 0, 1, -1, most, fewest),
		Name:  pick(r, "", "", "", "Cons", "+", "let", "\x00"),
		Alts:  pick(r, nil, nil, nil, []api.Arity{}, manyAlts(1), manyAlts(8), manyAlts(9), alts("A", 1, "A", 1), alts("", 1), alts("A", 9), alts("A", -1)),
	}
	for range pick(r, 0, 1, 1, 2, 3, 3, 9, 10) {
		x.To = append(x.To, port(pick(r, 0, 1, 2, 3, -1, most, fewest), pick(r, 0, 0, 1, 2, 9, -1, most, fewest)))
	}
	return x
}

// wild is a net that has anything.
func wild(r *rand.Rand) api.Net {
	n := api.Net{Cap: pick(r, 0, 1, 2, 3, 4, 5, 6, 9, mostNodes, mostNodes+1, -1, most, fewest)}
	for range r.Intn(8) {
		n.Nodes = append(n.Nodes, wildNode(r))
	}
	return n
}

// copied is n, of which no list and no name is n's.
func copied(n api.Net) api.Net {
	var l []api.Node
	for _, x := range n.Nodes {
		l = append(l, copiedNode(x))
	}
	n.Nodes = l
	return n
}

func copiedNode(x api.Node) api.Node {
	x.Name = strings.Clone(x.Name)
	x.To = slices.Clone(x.To)
	var l []api.Arity
	for _, a := range x.Alts {
		l = append(l, api.Arity{Name: strings.Clone(a.Name), N: a.N})
	}
	x.Alts = l
	return x
}

func sameNode(a, b api.Node) bool {
	return a.Kind == b.Kind && a.Level == b.Level && a.N == b.N && a.Name == b.Name && slices.Equal(a.Alts, b.Alts) && slices.Equal(a.To, b.To)
}

func same(a, b api.Net) bool {
	return a.Cap == b.Cap && slices.EqualFunc(a.Nodes, b.Nodes, sameNode)
}

// told is x as a failure tells it: no more than its first bytes.
func told(x any) string {
	s := fmt.Sprintf("%+q", fmt.Sprint(x))
	if len(s) > 600 {
		s = s[:600] + ".."
	}
	return s
}

// The promises, read otherwise.

// readNode tells if x may be, if To is not asked, but of a NodeCon: what it has is made a text, that is to be one of its kind's.
func readNode(x api.Node) bool {
	if x.Kind < 0 || x.Kind > 13 {
		return false
	}
	level := "level"
	switch {
	case x.Level == 0:
		level = "zero"
	case x.Level < 0 || x.Level > mostLevel:
		level = "no level"
	}
	n, name := "zero", "empty"
	if x.N != 0 {
		n = "number"
	}
	if len(x.Name) > 0 {
		name = "name"
	}
	has := level + ", " + n + ", " + name + ", " + readAlts(x.Alts)
	kinds := map[string]string{
		"zero, zero, empty, none":    "0 1 2 3 4 5 6 7 10 13",
		"level, zero, empty, none":   "2 3 4 5 6 7 10 13",
		"zero, number, empty, none":  "10",
		"level, number, empty, none": "10",
		"zero, zero, name, none":     "8 11 12",
		"level, zero, name, none":    "8 11 12",
		"zero, number, name, none":   "12",
		"level, number, name, none":  "12",
		"zero, zero, empty, some":    "9",
		"level, zero, empty, some":   "9",
	}
	if x.Kind == con && !slices.Contains([]int{1, 2, 3, 4, 5, 6, 7, 8, 9}, len(x.To)) {
		return false
	}
	return slices.Contains(strings.Fields(kinds[has]), strconv.Itoa(x.Kind))
}

func readAlts(l []api.Arity) string {
	if len(l) == 0 {
		return "none"
	}
	met := map[string]int{}
	for _, a := range l {
		if !strings.Contains("0 1 2 3 4 5 6 7 8", strconv.Itoa(a.N)) {
			return "wrong"
		}
		met[a.Name]++
	}
	if met[""] > 0 || len(met) < len(l) || len(l) > 8 {
		return "wrong"
	}
	return "some"
}

// readCheck gathers all wires, each in both ways: no port is to be the beginning or the end of none, or of two.
func readCheck(n api.Net) api.Errno {
	if n.Cap > mostNodes || len(n.Nodes) > n.Cap || len(n.Nodes) == 0 || n.Nodes[len(n.Nodes)-1].Kind == none {
		return errNet
	}
	type wire struct{ p, q api.Port }
	wires := map[wire]int{}
	ports := map[api.Port]int{}
	roots := 0
	for at, x := range n.Nodes {
		if !readNode(x) || len(x.To) != width(x) {
			return errNet
		}
		if x.Kind == root {
			roots += at + 1
		}
		for slot, q := range x.To {
			ports[port(at, slot)]++
			wires[wire{port(at, slot), q}]++
		}
	}
	if roots != 1 {
		return errNet
	}
	for w := range wires {
		if w.p == w.q || ports[w.q] != 1 || wires[wire{w.q, w.p}] != 1 {
			return errNet
		}
	}
	return api.OK
}

func readUsed(n api.Net) int {
	l := slices.DeleteFunc(slices.Clone(n.Nodes), func(x api.Node) bool { return x.Kind == none })
	return len(l)
}

func readMake(n api.Net, x api.Node) (api.Net, int, api.Errno) {
	if !readNode(x) || x.Kind < lam {
		return n, 0, errNode
	}
	if readUsed(n) >= n.Cap {
		return n, 0, errFull
	}
	x.To = make([]api.Port, width(x))
	made := api.Net{Cap: n.Cap}
	at := -1
	for i, y := range n.Nodes {
		if y.Kind == none && at < 0 {
			y, at = x, i
		}
		made.Nodes = append(made.Nodes, y)
	}
	if at < 0 {
		made.Nodes = append(made.Nodes, x)
		at = len(made.Nodes) - 1
	}
	return made, at, api.OK
}

func readFree(n api.Net, at int) (api.Net, api.Errno) {
	used := map[int]api.Node{}
	last := -1
	for i, x := range n.Nodes {
		if x.Kind != none {
			used[i] = x
			if i != at {
				last = i
			}
		}
	}
	if _, ok := used[at]; !ok {
		return n, errNode
	}
	made := api.Net{Cap: n.Cap}
	for i := range last + 1 {
		x := n.Nodes[i]
		if i == at {
			x = api.Node{}
		}
		made.Nodes = append(made.Nodes, x)
	}
	return made, api.OK
}

// Checks.

func checkNew(t *testing.T, most int, e api.Errno) {
	t.Helper()
	var want api.Net
	if e == api.OK {
		want = api.Net{Cap: most, Nodes: []api.Node{
			{Kind: root, To: []api.Port{port(1, 0)}},
			{Kind: fail, To: []api.Port{port(0, 0)}},
		}}
	}
	if n, got := store.New(most); got != e || !same(n, want) {
		t.Errorf("New(%d): %s, %d; want %s, %d", most, told(n), got, told(want), e)
	}
}

func checkPorts(t *testing.T, x api.Node, want int) {
	t.Helper()
	if got := store.Ports(x); got != want {
		t.Errorf("Ports(%s): %d; want %d", told(x), got, want)
	}
}

func checkCheck(t *testing.T, n api.Net, e api.Errno) {
	t.Helper()
	if got := store.Check(n); got != e {
		t.Errorf("Check(%s): %d; want %d", told(n), got, e)
	}
}

func checkUsed(t *testing.T, n api.Net, want int) {
	t.Helper()
	if got := store.Used(n); got != want {
		t.Errorf("Used(%s): %d; want %d", told(n), got, want)
	}
}

func checkMake(t *testing.T, n api.Net, x api.Node, want api.Net, at int, e api.Errno) {
	t.Helper()
	if got, is, err := store.Make(n, x); is != at || err != e || !same(got, want) {
		t.Errorf("Make(%s, %s): %s, %d, %d; want %s, %d, %d", told(n), told(x), told(got), is, err, told(want), at, e)
	}
}

// checkRefused asks that Make tells this error, and the net as it is.
func checkRefused(t *testing.T, n api.Net, x api.Node, e api.Errno) {
	t.Helper()
	checkMake(t, n, x, n, 0, e)
}

func checkFree(t *testing.T, n api.Net, at int, want api.Net, e api.Errno) {
	t.Helper()
	if got, err := store.Free(n, at); err != e || !same(got, want) {
		t.Errorf("Free(%s, %d): %s, %d; want %s, %d", told(n), at, told(got), err, told(want), e)
	}
}

// checkRead holds all that is told of n, of a node and of a place against the promises' reading.
func checkRead(t *testing.T, n api.Net, x api.Node, at int) {
	t.Helper()
	checkCheck(t, n, readCheck(n))
	checkUsed(t, n, readUsed(n))
	checkPorts(t, x, width(x))
	want, is, e := readMake(n, x)
	checkMake(t, n, x, want, is, e)
	want, e = readFree(n, at)
	checkFree(t, n, at, want, e)
}

// mustMake makes a node that may be, where there is room.
func mustMake(t *testing.T, n api.Net, x api.Node) (api.Net, int) {
	t.Helper()
	made, at, e := store.Make(n, x)
	if e != api.OK {
		t.Fatalf("Make(%s, %s): error %d", told(n), told(x), e)
	}
	return made, at
}

func mustFree(t *testing.T, n api.Net, at int) api.Net {
	t.Helper()
	made, e := store.Free(n, at)
	if e != api.OK {
		t.Fatalf("Free(%s, %d): error %d", told(n), at, e)
	}
	return made
}

// P12.1, New.

func TestNew(t *testing.T) {
	for _, n := range []int{2, 3, 4, 5, 8, 100, 2000, mostNodes - 1, mostNodes} {
		checkNew(t, n, api.OK)
		made, _ := store.New(n)
		checkCheck(t, made, api.OK)
		checkUsed(t, made, 2)
	}
	for _, n := range []int{1, 0, -1, -2, -2000, mostNodes + 1, mostNodes + 2, 1 << 20, 1<<32 + 5, most, fewest} {
		checkNew(t, n, errArg)
	}
}

// P12.1, Ports.

func TestPortsOfEachKind(t *testing.T) {
	for kind, want := range map[int]int{none: 0, root: 1, drop: 1, num: 1, fail: 1, open: 2, shut: 2, half: 2, lam: 3, app: 3, fan: 3, op: 3} {
		// Nothing but the kind is asked of these.
		checkPorts(t, api.Node{Kind: kind}, want)
		checkPorts(t, api.Node{Kind: kind, Level: -5, N: 3, Name: "x", Alts: manyAlts(3), To: make([]api.Port, 6)}, want)
	}
	for n := range 12 {
		checkPorts(t, api.Node{Kind: con, To: make([]api.Port, n)}, n)
		checkPorts(t, api.Node{Kind: con, Name: "Cons", To: make([]api.Port, n, 20), Alts: manyAlts(4), Level: 99}, n)
		checkPorts(t, api.Node{Kind: kase, Alts: manyAlts(n)}, n+2)
		checkPorts(t, api.Node{Kind: kase, Alts: make([]api.Arity, n, 20), To: make([]api.Port, 5), Level: -1, Name: "x"}, n+2)
	}
	checkPorts(t, api.Node{Kind: con, To: make([]api.Port, 100000)}, 100000)
	checkPorts(t, api.Node{Kind: kase, Alts: make([]api.Arity, 100000)}, 100002)
}

func TestPortsOfOtherKinds(t *testing.T) {
	for _, kind := range otherKinds() {
		checkPorts(t, api.Node{Kind: kind}, 0)
		checkPorts(t, api.Node{Kind: kind, Name: "A", Alts: manyAlts(2), To: make([]api.Port, 3)}, 0)
	}
}

// P12.1, Check: nodes.

// checkStar asks for a net with a node, and for that node to be made, which may be in both or in none.
func checkStar(t *testing.T, x api.Node, may bool) {
	t.Helper()
	n := star(x)
	want := api.OK
	if !may {
		want = errNet
	}
	checkCheck(t, n, want)
	if readCheck(n) != want {
		t.Errorf("the tests' own reading of %s tells %d", told(n), readCheck(n))
	}
	x.To = make([]api.Port, width(x))
	fresh, _ := store.New(9)
	if !may {
		checkRefused(t, fresh, x, errNode)
		return
	}
	made := fresh
	made.Nodes = append(slices.Clone(fresh.Nodes), x)
	checkMake(t, fresh, x, made, 2, api.OK)
}

// kinds are those of nodes that are neither a root nor a free place.
func kinds() []int {
	return []int{lam, app, fan, open, shut, drop, con, kase, num, op, half, fail}
}

func TestNodesOfEachKind(t *testing.T) {
	for _, kind := range kinds() {
		checkStar(t, bare(kind, 1), true)
		checkStar(t, bare(kind, 3), true)
		checkStar(t, bare(kind, 8), true)
	}
	for _, kind := range append(otherKinds(), root) {
		checkStar(t, api.Node{Kind: kind}, false)
		checkStar(t, api.Node{Kind: kind, Name: "A"}, false)
		checkStar(t, api.Node{Kind: kind, Alts: manyAlts(1)}, false)
	}
}

func TestLevelsOfNodes(t *testing.T) {
	for _, kind := range kinds() {
		for _, level := range []int{0, 1, 2, 30, mostLevel - 1, mostLevel, mostLevel + 1, mostLevel + 2, -1, -2, most, fewest} {
			x := bare(kind, 2)
			x.Level = level
			checkStar(t, x, level >= 0 && level <= 60)
		}
	}
}

func TestLevelsOfRootsAndFreePlaces(t *testing.T) {
	for _, level := range []int{0, 1, 60, 61, -1, most, fewest} {
		want := api.OK
		if level != 0 {
			want = errNet
		}
		n := star(bare(num, 0))
		n.Nodes[0].Level = level
		checkCheck(t, n, want)
		n = withHole(star(bare(num, 0)))
		n.Nodes[2].Level = level
		checkCheck(t, n, want)
	}
}

func TestNamesOfNodes(t *testing.T) {
	for _, kind := range kinds() {
		named := kind == con || kind == op || kind == half
		for _, name := range []string{"", "A", "x", "+", "let", " ", "\x00", "\xff\xfe", "0", strings.Repeat("Long", 1000)} {
			x := bare(kind, 2)
			x.Name = name
			checkStar(t, x, named == (name != ""))
		}
	}
}

func TestNumbersOfNodes(t *testing.T) {
	for _, kind := range kinds() {
		for _, n := range []int{0, 1, -1, 2, 60, 1 << 40, most, fewest} {
			x := bare(kind, 2)
			x.N = n
			checkStar(t, x, n == 0 || kind == num || kind == half)
		}
	}
}

func TestOtherNodesHaveNoAlternatives(t *testing.T) {
	for _, kind := range kinds() {
		if kind == kase {
			continue
		}
		for _, l := range [][]api.Arity{nil, {}, make([]api.Arity, 0, 3), alts("A", 0), manyAlts(2), manyAlts(9), {{}}} {
			x := bare(kind, 2)
			x.Alts = l
			checkStar(t, x, len(l) == 0)
		}
	}
}

func TestAlternatives(t *testing.T) {
	with := func(l []api.Arity) api.Node { return api.Node{Kind: kase, Level: 3, Alts: l} }
	for n := range 14 {
		checkStar(t, with(manyAlts(n)), n >= 1 && n <= 8)
	}
	for _, n := range []int{0, 1, 2, 7, 8, 9, 10, -1, -2, 1 << 32, most, fewest} {
		checkStar(t, with(alts("A", n)), n >= 0 && n <= 8)
		checkStar(t, with(alts("A", 1, "B", 0, "C", n)), n >= 0 && n <= 8)
		checkStar(t, with(alts("A", n, "B", 0, "C", 1)), n >= 0 && n <= 8)
	}
	checkStar(t, with(alts("", 0)), false)
	checkStar(t, with(alts("A", 0, "", 0)), false)
	checkStar(t, with(alts("", 0, "A", 0)), false)
	checkStar(t, with(alts("a", 0, "+", 1, "\xff", 2, "let", 3, " ", 4, strings.Repeat("B", 5000), 5)), true)
	// Alternatives are like one another if they have one name, however many variables.
	checkStar(t, with(alts("A", 1, "A", 1)), false)
	checkStar(t, with(alts("A", 1, "A", 2)), false)
	checkStar(t, with(alts("A", 1, "B", 1)), true)
	checkStar(t, with(alts("A", 1, "a", 1, "AA", 1, "A ", 1)), true)
	for i := range 8 {
		for j := range i {
			l := manyAlts(8)
			l[i].Name = l[j].Name
			checkStar(t, with(l), false)
			l[i].N = l[j].N
			checkStar(t, with(l), false)
		}
	}
}

func TestPartsOfConstructors(t *testing.T) {
	for n := range 14 {
		checkStar(t, bare(con, n), n >= 1 && n <= 9)
	}
}

func TestNodesHaveSoManyPorts(t *testing.T) {
	for _, kind := range kinds() {
		for wide := 1; wide <= 8 && kind != con; wide++ {
			x := bare(kind, wide)
			for ports := range 14 {
				want := errNet
				if ports == width(x) {
					want = api.OK
				}
				checkCheck(t, starOf(x, ports), want)
			}
		}
	}
	// A free place has none.
	for ports := range 5 {
		want := errNet
		if ports == 0 {
			want = api.OK
		}
		checkCheck(t, starOf(api.Node{}, ports), want)
	}
}

// P12.1, Check: nets.

// withHole is n with a free place behind its first two nodes.
func withHole(n api.Net) api.Net {
	n = copied(n)
	n.Nodes = slices.Insert(n.Nodes, 2, api.Node{})
	for i := range n.Nodes {
		for j, p := range n.Nodes[i].To {
			if p.Node >= 2 {
				n.Nodes[i].To[j].Node++
			}
		}
	}
	n.Nodes = append(n.Nodes, api.Node{Kind: drop, To: make([]api.Port, 1)}, api.Node{Kind: fail, To: make([]api.Port, 1)})
	wire(n, port(len(n.Nodes)-2, 0), port(len(n.Nodes)-1, 0))
	return n
}

func TestCapsOfNets(t *testing.T) {
	for _, kind := range []int{num, lam, kase} {
		n := star(bare(kind, 3))
		for _, room := range []int{len(n.Nodes), len(n.Nodes) + 1, 100, mostNodes - 1, mostNodes} {
			n.Cap = room
			checkCheck(t, n, api.OK)
		}
		for _, room := range []int{len(n.Nodes) - 1, 1, 0, -1, mostNodes + 1, mostNodes + 2, 1 << 32, most, fewest} {
			n.Cap = room
			checkCheck(t, n, errNet)
		}
	}
	// Free places count, too.
	n := withHole(star(bare(num, 0)))
	n.Cap = 5
	checkCheck(t, n, api.OK)
	n.Cap = 4
	checkCheck(t, n, errNet)
}

// row is a net with so many nodes, an even number: a root, and numbers, each of which meets a NodeDrop next to it.
func row(size int) api.Net {
	n := api.Net{Cap: mostNodes}
	for i := range size {
		x := api.Node{Kind: []int{num, drop}[i%2], To: []api.Port{port(i^1, 0)}}
		if i == 0 {
			x.Kind = root
		}
		n.Nodes = append(n.Nodes, x)
	}
	return n
}

func TestNetsAtTheirCap(t *testing.T) {
	for _, size := range []int{2, 4, mostNodes - 2, mostNodes} {
		n := row(size)
		checkCheck(t, n, api.OK)
		checkUsed(t, n, size)
		n.Cap = size
		checkCheck(t, n, api.OK)
		checkRefused(t, n, bare(lam, 0), errFull)
		n.Cap = size - 1
		checkCheck(t, n, errNet)
	}
	n := row(mostNodes + 2)
	checkCheck(t, n, errNet)
	n.Cap = mostNodes + 2
	checkCheck(t, n, errNet)
}

func TestNetsWithoutNodes(t *testing.T) {
	for _, room := range []int{0, 1, 2, mostNodes, mostNodes + 1, -1} {
		checkCheck(t, api.Net{Cap: room}, errNet)
		checkCheck(t, api.Net{Cap: room, Nodes: []api.Node{}}, errNet)
		checkUsed(t, api.Net{Cap: room}, 0)
	}
}

func TestRootsAlone(t *testing.T) {
	alone := api.Net{Cap: 1, Nodes: []api.Node{{Kind: root, To: []api.Port{port(0, 0)}}}}
	checkCheck(t, alone, errNet)
	alone.Nodes[0].To = nil
	checkCheck(t, alone, errNet)
}

func TestTheRootIsNumber0(t *testing.T) {
	for _, kind := range kinds() {
		if width(bare(kind, 1)) != 1 {
			continue
		}
		n := star(bare(kind, 1))
		checkCheck(t, n, api.OK)
		n.Nodes[0], n.Nodes[1] = n.Nodes[1], n.Nodes[0]
		n.Nodes[0].To[0], n.Nodes[1].To[0] = port(1, 0), port(0, 0)
		checkCheck(t, n, errNet)
		n.Nodes[1] = copiedNode(n.Nodes[0])
		n.Nodes[1].To[0] = port(0, 0)
		checkCheck(t, n, errNet)
	}
	for at := range 8 {
		n := row(8)
		n.Nodes[at].Kind = root
		want := errNet
		if at == 0 {
			want = api.OK
		}
		checkCheck(t, n, want)
		n.Nodes[0].Kind = num
		checkCheck(t, n, errNet)
	}
	// A free place is no root.
	n := row(4)
	n.Nodes = append([]api.Node{{}}, n.Nodes...)
	for i := range n.Nodes {
		for j := range n.Nodes[i].To {
			n.Nodes[i].To[j].Node++
		}
	}
	checkCheck(t, n, errNet)
}

func TestFreePlacesOfNets(t *testing.T) {
	n := row(10)
	n.Nodes[4], n.Nodes[5], n.Nodes[6], n.Nodes[7] = api.Node{}, api.Node{}, api.Node{}, api.Node{}
	checkCheck(t, n, api.OK)
	checkUsed(t, n, 6)
	for _, x := range []api.Node{{N: 1}, {Name: "A"}, {Level: 1}, {Alts: manyAlts(1)}, {Alts: make([]api.Arity, 1)}, {To: []api.Port{port(5, 0)}}, {To: make([]api.Port, 1)}} {
		with := copied(n)
		with.Nodes[6] = x
		checkCheck(t, with, errNet)
		checkUsed(t, with, 6)
	}
	with := copied(n)
	with.Nodes[6] = api.Node{Alts: []api.Arity{}, To: []api.Port{}}
	checkCheck(t, with, api.OK)
	// Two that are linked to each other, but are free.
	with.Nodes[4], with.Nodes[5] = api.Node{To: []api.Port{port(5, 0)}}, api.Node{To: []api.Port{port(4, 0)}}
	checkCheck(t, with, errNet)
	// The last one is none.
	with = copied(n)
	with.Nodes = append(with.Nodes, api.Node{})
	checkCheck(t, with, errNet)
	with.Nodes = append(with.Nodes, api.Node{}, api.Node{Kind: num}, api.Node{})
	checkCheck(t, with, errNet)
}

func TestLinksOfNets(t *testing.T) {
	base := star(bare(app, 0)) // 0 the root, 1 the NodeApp, 2 and 3 what is dropped
	checkCheck(t, base, api.OK)
	for at, x := range base.Nodes {
		for slot, is := range x.To {
			for _, node := range []int{0, 1, 2, 3, 4, 5, -1, -2, most, fewest} {
				for _, to := range []int{0, 1, 2, 3, 4, -1, -2, most, fewest} {
					n := copied(base)
					n.Nodes[at].To[slot] = port(node, to)
					want := errNet
					if port(node, to) == is {
						want = api.OK
					}
					checkCheck(t, n, want)
				}
			}
		}
	}
}

func TestPortsOfOneNodeMayBeLinked(t *testing.T) {
	n := api.Net{Cap: 2, Nodes: []api.Node{{Kind: root, To: make([]api.Port, 1)}, {Kind: lam, To: make([]api.Port, 3)}}}
	wire(n, port(0, 0), port(1, 0))
	wire(n, port(1, 1), port(1, 2))
	checkCheck(t, n, api.OK)
	wire(n, port(0, 0), port(1, 1))
	wire(n, port(1, 0), port(1, 2))
	checkCheck(t, n, api.OK)
	wire(n, port(0, 0), port(1, 2))
	wire(n, port(1, 0), port(1, 1))
	checkCheck(t, n, api.OK)
	// But no port to itself.
	wire(n, port(1, 0), port(1, 0))
	wire(n, port(1, 1), port(1, 1))
	checkCheck(t, n, errNet)
	n = row(6)
	wire(n, port(4, 0), port(4, 0))
	wire(n, port(5, 0), port(5, 0))
	checkCheck(t, n, errNet)
}

func TestLinksInARound(t *testing.T) {
	// Each port is linked to the next one, the last one to the first one: none both ways.
	n := row(6)
	for i := range n.Nodes {
		n.Nodes[i].To[0] = port((i+1)%6, 0)
	}
	checkCheck(t, n, errNet)
	// One of two is linked to a third one, that is linked elsewhere.
	for at := range 6 {
		for to := range 6 {
			n := row(6)
			n.Nodes[at].To[0] = port(to, 0)
			want := errNet
			if to == at^1 {
				want = api.OK
			}
			checkCheck(t, n, want)
		}
	}
}

func TestLinksToFreePlaces(t *testing.T) {
	n := row(8)
	n.Nodes[4] = api.Node{}
	checkCheck(t, n, errNet)
	n.Nodes[5] = api.Node{}
	checkCheck(t, n, api.OK)
	n.Nodes[6].To[0] = port(4, 0)
	checkCheck(t, n, errNet)
	// Freed, what was linked to it is left behind.
	n = mustFree(t, star(bare(app, 0)), 2)
	checkCheck(t, n, errNet)
}

// P12.1, Used.

func TestUsed(t *testing.T) {
	n, _ := store.New(5)
	checkUsed(t, n, 2)
	checkUsed(t, api.Net{}, 0)
	l := make([]api.Node, 7)
	checkUsed(t, api.Net{Nodes: l}, 0)
	for i, kind := range []int{14, -1, most, fewest, root, lam} {
		l[i].Kind = kind
		checkUsed(t, api.Net{Nodes: l, Cap: -4}, i+1)
	}
	// Whatever else a free place has.
	checkUsed(t, api.Net{Nodes: []api.Node{{Level: 1, N: 2, Name: "A", Alts: manyAlts(1), To: make([]api.Port, 2)}, {Kind: lam}}}, 1)
}

// P12.2, Make.

func TestMakeOfEachKind(t *testing.T) {
	for _, kind := range kinds() {
		for wide := 1; wide <= 8; wide++ {
			x := bare(kind, wide)
			x.Level = 7 * wide
			if kind == num || kind == half {
				x.N = -wide
			}
			n, _ := store.New(3)
			want := copied(n)
			y := copiedNode(x)
			y.To = make([]api.Port, width(x))
			want.Nodes = append(want.Nodes, y)
			checkMake(t, n, x, want, 2, api.OK)
			made, at := mustMake(t, n, x)
			if got := made.Nodes[at]; len(got.To) != store.Ports(x) || slices.ContainsFunc(got.To, func(p api.Port) bool { return p != api.Port{} }) {
				t.Errorf("Make(%s): %s", told(x), told(got))
			}
		}
	}
}

func TestMakeTakesNoLinks(t *testing.T) {
	n, _ := store.New(4)
	for _, kind := range kinds() {
		x := bare(kind, 3)
		want := copied(n)
		y := copiedNode(x)
		y.To = make([]api.Port, width(x))
		want.Nodes = append(want.Nodes, y)
		for _, size := range []int{0, 1, 2, 3, 5, 9, 10, 1000} {
			if kind == con && size != 3 {
				continue
			}
			with := x
			with.To = slices.Repeat([]api.Port{port(1, 0), port(-9, most)}, size)[:size]
			checkMake(t, n, with, want, 2, api.OK)
		}
	}
}

func TestMakeRefusesNodes(t *testing.T) {
	n, _ := store.New(4)
	for _, kind := range append(otherKinds(), none, root) {
		checkRefused(t, n, api.Node{Kind: kind}, errNode)
		checkRefused(t, n, api.Node{Kind: kind, To: make([]api.Port, 1)}, errNode)
		checkRefused(t, n, api.Node{Kind: kind, Name: "A", To: make([]api.Port, 2)}, errNode)
	}
	checkRefused(t, n, api.Node{Kind: kase}, errNode)
	checkRefused(t, n, api.Node{Kind: con, Name: "A"}, errNode)
	checkRefused(t, n, api.Node{Kind: con, To: make([]api.Port, 1)}, errNode)
	checkRefused(t, n, api.Node{Kind: con, Name: "A", To: make([]api.Port, 10)}, errNode)
	checkRefused(t, n, api.Node{Kind: con, Name: "A", N: 1, To: make([]api.Port, 1)}, errNode)
	checkRefused(t, n, api.Node{Kind: op}, errNode)
	checkRefused(t, n, api.Node{Kind: half, N: 3}, errNode)
	checkRefused(t, n, api.Node{Kind: fail, N: 3}, errNode)
	checkRefused(t, n, api.Node{Kind: lam, Level: 61}, errNode)
}

func TestMakeRefusesWhereItIsFull(t *testing.T) {
	n, _ := store.New(3)
	n, _ = mustMake(t, n, bare(lam, 0))
	checkRefused(t, n, bare(lam, 0), errFull)
	checkRefused(t, n, bare(kase, 8), errFull)
	// What may not be is told first.
	checkRefused(t, n, api.Node{}, errNode)
	checkRefused(t, n, api.Node{Kind: root}, errNode)
	checkRefused(t, n, bare(con, 10), errNode)
	for room := -3; room < 6; room++ {
		n.Cap = room
		if room > 3 {
			want := copied(n)
			want.Nodes = append(want.Nodes, api.Node{Kind: lam, To: make([]api.Port, 3)})
			checkMake(t, n, bare(lam, 0), want, 3, api.OK)
			continue
		}
		checkRefused(t, n, bare(lam, 0), errFull)
	}
	n.Cap = fewest
	checkRefused(t, n, bare(lam, 0), errFull)
	checkRefused(t, api.Net{}, bare(lam, 0), errFull)
	checkRefused(t, api.Net{}, bare(root, 0), errNode)
}

func TestFreePlacesAreRoom(t *testing.T) {
	// As many places as the cap, of which some are free.
	n := row(8)
	n.Cap = 8
	checkRefused(t, n, bare(num, 0), errFull)
	n.Nodes[4], n.Nodes[5] = api.Node{}, api.Node{}
	want := copied(n)
	want.Nodes[4] = api.Node{Kind: num, To: make([]api.Port, 1)}
	checkMake(t, n, bare(num, 0), want, 4, api.OK)
	n, _ = mustMake(t, n, bare(num, 0))
	want = copied(n)
	want.Nodes[5] = api.Node{Kind: fan, To: make([]api.Port, 3)}
	checkMake(t, n, bare(fan, 0), want, 5, api.OK)
	n, _ = mustMake(t, n, bare(fan, 0))
	checkRefused(t, n, bare(num, 0), errFull)
}

func TestMakeTakesTheFirstFreePlace(t *testing.T) {
	for first := range 8 {
		for second := first; second < 8; second++ {
			n := row(8)
			n.Nodes[first], n.Nodes[second] = api.Node{}, api.Node{}
			want := copied(n)
			want.Nodes[first] = api.Node{Kind: drop, Level: 3, To: make([]api.Port, 1)}
			checkMake(t, n, api.Node{Kind: drop, Level: 3}, want, first, api.OK)
		}
	}
	// Behind all that are there; a last place that is free is taken as well.
	n := row(4)
	want := copied(n)
	want.Nodes = append(want.Nodes, api.Node{Kind: half, Name: "/", N: 5, To: make([]api.Port, 2)})
	checkMake(t, n, api.Node{Kind: half, Name: "/", N: 5}, want, 4, api.OK)
	n.Nodes = append(n.Nodes, api.Node{})
	checkMake(t, n, api.Node{Kind: half, Name: "/", N: 5}, want, 4, api.OK)
	n.Nodes = append(n.Nodes, api.Node{})
	want.Nodes = append(want.Nodes, api.Node{})
	checkMake(t, n, api.Node{Kind: half, Name: "/", N: 5}, want, 4, api.OK)
}

func TestMakeDoesNotLookAtTheNet(t *testing.T) {
	made := api.Node{Kind: lam, To: make([]api.Port, 3)}
	// No root, other kinds, no links, levels and caps that may not be.
	odd := api.Node{Kind: 99, Level: -3, Name: "x", N: 7, Alts: manyAlts(9), To: []api.Port{port(-1, 4)}}
	n := api.Net{Cap: most, Nodes: []api.Node{odd, {Kind: root}, {Kind: root, Level: 61}, odd}}
	want := copied(n)
	want.Nodes = append(want.Nodes, made)
	checkMake(t, n, bare(lam, 0), want, 4, api.OK)
	// A free place is a NodeNone, whatever it has: nothing of that stays.
	n.Nodes[1] = api.Node{Level: 5, Name: "y", N: 3, Alts: manyAlts(2), To: []api.Port{port(2, 2)}}
	want = copied(n)
	want.Nodes[1] = made
	checkMake(t, n, bare(lam, 0), want, 1, api.OK)
	n.Nodes[0] = api.Node{}
	want = copied(n)
	want.Nodes[0] = made
	checkMake(t, n, bare(lam, 0), want, 0, api.OK)
	checkMake(t, api.Net{Cap: 1}, bare(lam, 0), api.Net{Cap: 1, Nodes: []api.Node{made}}, 0, api.OK)
	// More places than the cap, but as many of them free.
	n = row(8)
	n.Nodes[6], n.Nodes[7], n.Cap = api.Node{}, api.Node{}, 6
	checkRefused(t, n, bare(lam, 0), errFull)
	n.Cap = 7
	want = copied(n)
	want.Nodes[6] = made
	checkMake(t, n, bare(lam, 0), want, 6, api.OK)
}

// P12.3, Free.

func TestFree(t *testing.T) {
	for at := range 7 {
		n := row(8)
		want := copied(n)
		want.Nodes[at] = api.Node{}
		checkFree(t, n, at, want, api.OK)
	}
	n := row(8)
	want := copied(n)
	want.Nodes = want.Nodes[:7]
	checkFree(t, n, 7, want, api.OK)
}

func TestFreeRefuses(t *testing.T) {
	n := row(8)
	n.Nodes[4] = api.Node{}
	for _, at := range []int{4, 8, 9, -1, -8, mostNodes, most, fewest} {
		checkFree(t, n, at, n, errNode)
	}
	// Nothing is taken away then, from the end either.
	n.Nodes[7] = api.Node{}
	for _, at := range []int{4, 7, 8, -1} {
		checkFree(t, n, at, n, errNode)
	}
	n.Nodes[4] = api.Node{Level: 1, N: 2, Name: "x", To: make([]api.Port, 3)}
	checkFree(t, n, 4, n, errNode)
	for _, at := range []int{0, 1, -1, most, fewest} {
		checkFree(t, api.Net{}, at, api.Net{}, errNode)
		checkFree(t, api.Net{Cap: 7, Nodes: make([]api.Node, 2)}, at, api.Net{Cap: 7, Nodes: make([]api.Node, 2)}, errNode)
	}
}

func TestFreeTakesFreePlacesAwayFromTheEnd(t *testing.T) {
	n := row(10)
	n.Nodes[3], n.Nodes[6], n.Nodes[7], n.Nodes[8] = api.Node{}, api.Node{}, api.Node{}, api.Node{}
	want := copied(n)
	want.Nodes = want.Nodes[:6]
	checkFree(t, n, 9, want, api.OK)
	// Those that were at the end ahead of it are taken away, too, whatever is freed, and whatever they have.
	n.Nodes[9] = api.Node{Level: 8, Name: "x", To: make([]api.Port, 2)}
	checkFree(t, n, 5, api.Net{Cap: mostNodes, Nodes: n.Nodes[:5]}, api.OK)
	want = copied(n)
	want.Nodes = want.Nodes[:6]
	want.Nodes[1] = api.Node{}
	checkFree(t, n, 1, want, api.OK)
	// None is left.
	l := make([]api.Node, 5)
	l[2].Kind = lam
	checkFree(t, api.Net{Cap: 4, Nodes: l}, 2, api.Net{Cap: 4}, api.OK)
	l[0].Kind = root
	checkFree(t, api.Net{Cap: 4, Nodes: l}, 2, api.Net{Cap: 4, Nodes: l[:1]}, api.OK)
	checkFree(t, api.Net{Cap: 4, Nodes: l[:1]}, 0, api.Net{Cap: 4}, api.OK)
}

func TestFreeOfAnyNode(t *testing.T) {
	odd := api.Node{Kind: -5, Level: -3, Name: "x", N: 7, Alts: manyAlts(9), To: []api.Port{port(-1, 4)}}
	n := api.Net{Cap: -2, Nodes: []api.Node{odd, {Kind: root}, odd, {Kind: 14}}}
	for at := range 3 {
		want := copied(n)
		want.Nodes[at] = api.Node{}
		checkFree(t, n, at, want, api.OK)
	}
	checkFree(t, n, 3, api.Net{Cap: -2, Nodes: n.Nodes[:3]}, api.OK)
	// The root as well.
	n, _ = store.New(5)
	want := copied(n)
	want.Nodes[0] = api.Node{}
	checkFree(t, n, 0, want, api.OK)
}

// P12.4: what is made and freed is as it was; places that are free, and those that are not, are all together.

func TestWhatIsMadeAndFreedIsAsItWas(t *testing.T) {
	t.Parallel()
	r := rand.New(rand.NewSource(2))
	holes, behind := 0, 0
	for range 5000 {
		n := net(r, r.Intn(12))
		checkCheck(t, n, api.OK)
		n.Cap = len(n.Nodes) + 1
		made, at := mustMake(t, n, likely(r))
		if at < len(n.Nodes) {
			holes++
		} else {
			behind++
		}
		checkFree(t, made, at, n, api.OK)
		checkUsed(t, made, store.Used(n)+1)
		checkCheck(t, mustFree(t, made, at), api.OK)
	}
	if holes < 1000 || behind < 1000 {
		t.Error("some are few", holes, behind)
	}
}

// TestManyAreMadeAndFreed holds nets against what is kept by places, one call behind the other.
func TestManyAreMadeAndFreed(t *testing.T) {
	t.Parallel()
	r := rand.New(rand.NewSource(3))
	full, holes := 0, 0
	for range 60 {
		room := 2 + r.Intn(30)
		n, e := store.New(room)
		if e != api.OK {
			t.Fatal(room, e)
		}
		kept := map[int]api.Node{0: n.Nodes[0], 1: n.Nodes[1]}
		for range 300 {
			if r.Intn(5) < 3 {
				x := likely(r)
				made, at, e := store.Make(n, x)
				first := 0
				for _, taken := kept[first]; taken; _, taken = kept[first] {
					first++
				}
				switch {
				case len(kept) >= room:
					full++
					checkRefused(t, n, x, errFull)
				case e != api.OK || at != first:
					t.Errorf("Make(%s): %d, %d; want %d", told(n), at, e, first)
				default:
					if first < len(n.Nodes) {
						holes++
					}
					x.To = make([]api.Port, width(x))
					kept[first] = x
				}
				n = made
			} else {
				at := r.Intn(room + 1)
				_, is := kept[at]
				made, e := store.Free(n, at)
				if (e == api.OK) != is {
					t.Errorf("Free(%s, %d): %d", told(n), at, e)
				}
				delete(kept, at)
				n = made
			}
			checkKept(t, n, kept, room)
		}
	}
	if full < 500 || holes < 500 {
		t.Error("some are few", full, holes)
	}
}

// checkKept asks that n has just what is kept, at its places, and no free ones behind.
func checkKept(t *testing.T, n api.Net, kept map[int]api.Node, room int) {
	t.Helper()
	last, free := -1, 0
	for at := range kept {
		last = max(last, at)
	}
	for at, x := range n.Nodes {
		if x.Kind == none {
			free++
		}
		if !sameNode(x, kept[at]) {
			t.Errorf("at %d there is %s; want %s", at, told(x), told(kept[at]))
		}
	}
	checkUsed(t, n, len(kept))
	if len(n.Nodes) != last+1 || n.Cap != room || free+len(kept) != len(n.Nodes) || len(n.Nodes) > room {
		t.Errorf("%d places, %d free ones, %d kept, the last one %d, a cap of %d, of %d", len(n.Nodes), free, len(kept), last, n.Cap, room)
	}
}

func TestNetsAreFilledAndEmptied(t *testing.T) {
	t.Parallel()
	const room = 400
	n, _ := store.New(room)
	for i := 2; i < room; i++ {
		var at int
		n, at = mustMake(t, n, bare(kinds()[i%12], 1+i%8))
		if at != i {
			t.Fatalf("made at %d; want %d", at, i)
		}
	}
	checkRefused(t, n, bare(lam, 0), errFull)
	checkUsed(t, n, room)
	for i := 1; i < room; i += 2 {
		n = mustFree(t, n, i)
	}
	checkUsed(t, n, room/2)
	if len(n.Nodes) != room-1 {
		t.Error(len(n.Nodes))
	}
	for i := 1; i < room; i += 2 {
		var at int
		n, at = mustMake(t, n, bare(drop, 0))
		if at != i {
			t.Fatalf("made at %d; want %d", at, i)
		}
	}
	checkRefused(t, n, bare(lam, 0), errFull)
	for i := range room - 2 {
		n = mustFree(t, n, i+2)
	}
	checkUsed(t, n, 2)
	if len(n.Nodes) != 2 {
		t.Error(len(n.Nodes))
	}
}

// Nets of any sort.

func TestNetsThatMayBe(t *testing.T) {
	t.Parallel()
	r := rand.New(rand.NewSource(4))
	full, holes := 0, 0
	for range 10000 {
		n := net(r, r.Intn(15))
		checkCheck(t, n, api.OK)
		checkRead(t, n, likely(r), r.Intn(len(n.Nodes)+1)-r.Intn(2))
		if store.Used(n) == n.Cap {
			full++
		}
		if store.Used(n) < len(n.Nodes) {
			holes++
		}
	}
	if full < 100 || holes < 1000 {
		t.Error("some are few", full, holes)
	}
}

// harm changes something in n, which is the test's own.
func harm(r *rand.Rand, n api.Net) api.Net {
	at := r.Intn(len(n.Nodes))
	x := &n.Nodes[at]
	number := func(is int) int { return pick(r, 0, 1, is-1, is+1, -1, 60, 61, most, fewest) }
	switch r.Intn(12) {
	case 0:
		n.Cap = pick(r, 0, 1, len(n.Nodes)-1, len(n.Nodes), len(n.Nodes)+1, mostNodes, mostNodes+1, fewest)
	case 1:
		n.Nodes = n.Nodes[:r.Intn(len(n.Nodes)+1)]
	case 2:
		n.Nodes = append(n.Nodes, pick(r, api.Node{}, api.Node{Kind: root, To: make([]api.Port, 1)}, likely(r)))
	case 3:
		x.Kind = pick(r, r.Intn(14), number(x.Kind))
	case 4:
		x.Level = number(x.Level)
	case 5:
		x.N = number(x.N)
	case 6:
		x.Name = pick(r, "", "A", "+")
	case 7:
		x.Alts = pick(r, nil, manyAlts(len(x.Alts)), manyAlts(len(x.Alts)+1), slices.Concat(x.Alts, x.Alts))
	case 8:
		if len(x.Alts) > 0 {
			x.Alts[r.Intn(len(x.Alts))] = pick(r, x.Alts[0], api.Arity{Name: "A0", N: 3}, api.Arity{Name: "B", N: r.Intn(12) - 2}, api.Arity{N: 1})
		}
	case 9:
		x.To = pick(r, nil, x.To[:len(x.To)/2], append(x.To, port(r.Intn(9), 0)))
	case 10:
		if len(x.To) > 0 {
			p := &x.To[r.Intn(len(x.To))]
			*p = pick(r, port(number(p.Node), p.Slot), port(p.Node, number(p.Slot)), port(r.Intn(len(n.Nodes)), r.Intn(3)))
		}
	case 11:
		to := r.Intn(len(n.Nodes))
		n.Nodes[at], n.Nodes[to] = n.Nodes[to], n.Nodes[at]
	}
	return n
}

func TestHarmedNets(t *testing.T) {
	t.Parallel()
	r := rand.New(rand.NewSource(5))
	may, refused := 0, 0
	for range 60000 {
		n := net(r, r.Intn(6))
		for range 1 + r.Intn(2) {
			if len(n.Nodes) > 0 {
				n = harm(r, n)
			}
		}
		checkRead(t, n, pick(r, likely(r), wildNode(r)), r.Intn(len(n.Nodes)+2)-1)
		if store.Check(n) == api.OK {
			may++
		} else {
			refused++
		}
	}
	if may < 5000 || refused < 5000 {
		t.Error("some are few", may, refused)
	}
}

func TestWildNets(t *testing.T) {
	t.Parallel()
	r := rand.New(rand.NewSource(6))
	for range 40000 {
		checkRead(t, wild(r), wildNode(r), pick(r, r.Intn(9)-1, most, fewest))
	}
}

// TestAllSmallNets takes each way in which the ports of three nodes could be linked.
func TestAllSmallNets(t *testing.T) {
	t.Parallel()
	ends := []api.Port{port(0, 0), port(1, 0), port(1, 1), port(2, 0), port(2, 1), port(1, -1), port(-1, 0), port(3, 0)}
	may := 0
	for i := range 8 * 8 * 8 * 8 {
		to := func(k int) api.Port { return ends[i>>(3*k)&7] }
		n := api.Net{Cap: 3, Nodes: []api.Node{
			{Kind: root, To: []api.Port{to(0)}},
			{Kind: open, To: []api.Port{to(1), to(2)}},
			{Kind: drop, To: []api.Port{to(3)}},
		}}
		checkCheck(t, n, readCheck(n))
		if store.Check(n) == api.OK {
			may++
		}
	}
	// The root is linked to one of three, and the other two to each other.
	if may != 3 {
		t.Error(may)
	}
}

// P1, and the rules: every call ends, none panics; nothing is changed, shared or kept.

func TestLargeArguments(t *testing.T) {
	t.Parallel()
	const large = 1 << 20
	n := api.Net{Cap: most, Nodes: make([]api.Node, large)}
	checkCheck(t, n, errNet)
	checkUsed(t, n, 0)
	made, at := mustMake(t, n, bare(num, 0))
	if at != 0 || len(made.Nodes) != large {
		t.Error(at, len(made.Nodes))
	}
	checkFree(t, made, 0, api.Net{Cap: most}, api.OK)
	for i := range n.Nodes {
		n.Nodes[i].Kind = drop
	}
	checkCheck(t, n, errNet)
	checkUsed(t, n, large)
	made, at = mustMake(t, n, bare(num, 0))
	if at != large || len(made.Nodes) != large+1 {
		t.Error(at, len(made.Nodes))
	}
	n.Cap = large
	if _, at, e := store.Make(n, bare(num, 0)); at != 0 || e != errFull {
		t.Error(at, e)
	}
	small, _ := store.New(9)
	wide := api.Node{Kind: kase, Alts: manyAlts(large), To: make([]api.Port, large), Name: strings.Repeat("A", large)}
	checkRefused(t, small, wide, errNode)
	wide.Name = ""
	checkRefused(t, small, wide, errNode)
	wide.Kind, wide.Name, wide.Alts = con, "A", nil
	checkRefused(t, small, wide, errNode)
	wide.Kind, wide.Name = lam, ""
	made, at = mustMake(t, small, wide)
	if at != 2 || len(made.Nodes[2].To) != 3 {
		t.Error(at, len(made.Nodes[2].To))
	}
}

// roomy is n, each of whose lists has room behind it.
func roomy(n api.Net) api.Net {
	l := make([]api.Node, 0, len(n.Nodes)+3)
	for _, x := range n.Nodes {
		l = append(l, roomyNode(x))
	}
	n.Nodes = l
	return n
}

func roomyNode(x api.Node) api.Node {
	x.Name = strings.Clone(x.Name)
	x.Alts = append(make([]api.Arity, 0, len(x.Alts)+3), x.Alts...)
	x.To = append(make([]api.Port, 0, len(x.To)+3), x.To...)
	return x
}

// hasRoom tells if there is nothing behind the lists of n, which roomy made.
func hasRoom(n api.Net) bool {
	for _, x := range n.Nodes[len(n.Nodes):cap(n.Nodes)] {
		if !sameNode(x, api.Node{}) {
			return false
		}
	}
	for _, x := range n.Nodes {
		if !hasRoomNode(x) {
			return false
		}
	}
	return true
}

func hasRoomNode(x api.Node) bool {
	for _, a := range x.Alts[len(x.Alts):cap(x.Alts)] {
		if a != (api.Arity{}) {
			return false
		}
	}
	for _, p := range x.To[len(x.To):cap(x.To)] {
		if p != (api.Port{}) {
			return false
		}
	}
	return true
}

// spoil writes into all that n has.
func spoil(n api.Net) {
	l := n.Nodes[:cap(n.Nodes)]
	for i := range l {
		for j := range l[i].To[:cap(l[i].To)] {
			l[i].To[:cap(l[i].To)][j] = port(-77, -77)
		}
		for j := range l[i].Alts[:cap(l[i].Alts)] {
			l[i].Alts[:cap(l[i].Alts)][j] = api.Arity{Name: "spoilt", N: -77}
		}
		l[i] = api.Node{Kind: -77}
	}
}

func TestArgumentsAreLeft(t *testing.T) {
	t.Parallel()
	r := rand.New(rand.NewSource(7))
	for i := range 6000 {
		want, node := net(r, r.Intn(8)), likely(r)
		if i%3 == 0 {
			want, node = wild(r), wildNode(r)
		}
		n, x := roomy(want), roomyNode(node)
		at := r.Intn(len(n.Nodes)+2) - 1
		checkRead(t, n, x, at)
		made, _, _ := store.Make(n, x)
		freed, _ := store.Free(n, at)
		spoil(made)
		spoil(freed)
		if !same(n, want) || !sameNode(x, node) || !hasRoom(n) || !hasRoomNode(x) {
			t.Errorf("%s, or %s, was changed: %s, %s", told(want), told(node), told(n), told(x))
		}
	}
}

// span is where a list, or a text, lies.
type span struct{ from, to uintptr }

func list[T any](l []T) span {
	from := uintptr(unsafe.Pointer(unsafe.SliceData(l)))
	return span{from, from + uintptr(cap(l))*unsafe.Sizeof(*new(T))}
}

// memory is where all that n has lies, but what is empty.
func memory(n api.Net) []span {
	l := []span{list(n.Nodes)}
	text := func(s string) {
		from := uintptr(unsafe.Pointer(unsafe.StringData(s)))
		l = append(l, span{from, from + uintptr(len(s))})
	}
	for _, x := range n.Nodes {
		l = append(l, list(x.To), list(x.Alts))
		text(x.Name)
		for _, a := range x.Alts {
			text(a.Name)
		}
	}
	return slices.DeleteFunc(l, func(s span) bool { return s.from == s.to })
}

// checkApart asks that the answer shares nothing with an argument, and no two of its lists and names share anything.
func checkApart(t *testing.T, answer, n api.Net) {
	t.Helper()
	all := append(memory(answer), memory(n)...)
	slices.SortFunc(all, func(a, b span) int { return int(a.from) - int(b.from) })
	for i := 1; i < len(all); i++ {
		if all[i].from < all[i-1].to {
			t.Errorf("%s, of %s, shares memory", told(answer), told(n))
			return
		}
	}
}

func TestAnswersAreNewMemory(t *testing.T) {
	t.Parallel()
	r := rand.New(rand.NewSource(8))
	full, refused := 0, 0
	for range 3000 {
		n := copied(net(r, r.Intn(8)))
		x := copiedNode(pick(r, likely(r), likely(r), bare(con, 10), bare(root, 0)))
		made, _, e := store.Make(n, x)
		with := n
		with.Nodes = append(slices.Clone(n.Nodes), x)
		checkApart(t, made, with)
		switch e {
		case errFull:
			full++
		case errNode:
			refused++
		}
		freed, _ := store.Free(n, r.Intn(len(n.Nodes)+1))
		checkApart(t, freed, n)
		checkApart(t, freed, made)
	}
	if full < 100 || refused < 100 {
		t.Error("some are few", full, refused)
	}
	a, _ := store.New(9)
	b, _ := store.New(9)
	checkApart(t, a, b)
}

func TestNothingIsKept(t *testing.T) {
	r := rand.New(rand.NewSource(9))
	for range 1000 {
		n, m := net(r, r.Intn(8)), net(r, r.Intn(8))
		x, y := likely(r), likely(r)
		for range 2 {
			checkRead(t, n, x, 1)
			checkNew(t, 7, api.OK)
			made, _, _ := store.Make(copied(n), copiedNode(x))
			freed, _ := store.Free(copied(n), 1)
			fresh, _ := store.New(7)
			spoil(made)
			spoil(freed)
			spoil(fresh)
			checkRead(t, m, y, 0)
		}
	}
}

func TestEmptyListsAndNilOnes(t *testing.T) {
	for _, kind := range append(kinds(), none, root, 14, -1) {
		x := bare(kind, 1)
		empty := x
		if len(x.Alts) == 0 {
			x.Alts, empty.Alts = nil, []api.Arity{}
		}
		if len(x.To) == 0 {
			x.To, empty.To = nil, []api.Port{}
		}
		checkPorts(t, empty, store.Ports(x))
		n, _ := store.New(9)
		want, at, e := store.Make(n, x)
		checkMake(t, n, empty, want, at, e)
		with := star(x)
		with.Nodes[1].Alts = empty.Alts
		checkCheck(t, with, store.Check(star(x)))
	}
	n := api.Net{Cap: 1, Nodes: []api.Node{}}
	want, at, e := store.Make(api.Net{Cap: 1}, bare(num, 0))
	checkMake(t, n, bare(num, 0), want, at, e)
	checkFree(t, n, 0, api.Net{Cap: 1}, errNode)
}

func TestCallsAtOneTime(t *testing.T) {
	r := rand.New(rand.NewSource(10))
	var all []api.Net
	var nodes []api.Node
	for range 50 {
		all, nodes = append(all, net(r, 10)), append(nodes, likely(r))
	}
	var wait sync.WaitGroup
	for range 8 {
		wait.Go(func() {
			for i, n := range all {
				checkRead(t, n, nodes[i], i%8)
				checkNew(t, i+2, api.OK)
			}
		})
	}
	wait.Wait()
}
