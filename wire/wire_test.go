package wire_test

import (
	"fmt"
	"maps"
	"math"
	"math/rand"
	"slices"
	"strings"
	"sync"
	"testing"
	"unsafe"

	"gossamer/api"
	"gossamer/store"
	"gossamer/wire"
)

// Kinds, errors and limits are written as numbers: the chapters tell them so.

const (
	none = 0
	root = 1
	lam  = 2
	app  = 3
	fan  = 4
	open = 5
	drop = 7
	con  = 8
	kase = 9
	num  = 10
	half = 12
	fail = 13

	errPort api.Errno = 130

	mostNodes = 4000

	fewest = math.MinInt
	most   = math.MaxInt
)

func port(node, slot int) api.Port { return api.Port{Node: node, Slot: slot} }

// node is one of that kind, that may be, but for its links: of which it has so many.
func node(kind, ports int) api.Node {
	x := api.Node{Kind: kind, To: make([]api.Port, ports)}
	switch kind {
	case con:
		x.Name = "Cons"
	case half:
		x.Name, x.N = "+", -4
	case kase:
		for i := range ports - 2 {
			x.Alts = append(x.Alts, api.Arity{Name: string(rune('A' + i)), N: i})
		}
	}
	return x
}

// bind writes into n, which is the test's own.
func bind(n api.Net, p, q api.Port) {
	n.Nodes[p.Node].To[p.Slot] = q
	n.Nodes[q.Node].To[q.Slot] = p
}

// star is a net that may be: its root comes to a NodeLam, 1; each other port of that to a NodeInt, 2 and 3; 4 is free; 5 and 6 meet.
func star() api.Net {
	n := api.Net{Cap: 9, Nodes: []api.Node{node(root, 1), node(lam, 3), node(num, 1), node(num, 1), {}, node(drop, 1), node(fail, 1)}}
	bind(n, port(0, 0), port(1, 0))
	bind(n, port(1, 1), port(2, 0))
	bind(n, port(1, 2), port(3, 0))
	bind(n, port(5, 0), port(6, 0))
	return n
}

func pick[T any](r *rand.Rand, l ...T) T { return l[r.Intn(len(l))] }

// likely is a node that may be, but for its links.
func likely(r *rand.Rand) api.Node {
	ports := map[int]int{lam: 3, app: 3, fan: 3, open: 2, drop: 1, con: 1 + r.Intn(9), kase: 3 + r.Intn(8), num: 1, half: 2, fail: 1}
	kind := pick(r, lam, app, fan, open, drop, con, kase, num, half, fail)
	x := node(kind, ports[kind])
	x.Level = r.Intn(61)
	return x
}

// net is one that may be: nodes with free places between, whose ports are linked at random.
func net(r *rand.Rand, size int) api.Net {
	n := api.Net{Nodes: []api.Node{node(root, 1)}}
	for range size {
		x := likely(r)
		if r.Intn(4) == 0 {
			x = api.Node{}
		}
		n.Nodes = append(n.Nodes, x)
	}
	// One behind that makes the ports even, and is no free place.
	n.Nodes = append(n.Nodes, pick(r, node(num, 1), node(fail, 1)))
	if len(ports(n))%2 == 1 {
		n.Nodes[len(n.Nodes)-1] = node(open, 2)
	}
	all := ports(n)
	r.Shuffle(len(all), func(i, j int) { all[i], all[j] = all[j], all[i] })
	for i := 0; i < len(all); i += 2 {
		bind(n, all[i], all[i+1])
	}
	n.Cap = len(n.Nodes) + r.Intn(9)
	return n
}

// wild is a net that has anything.
func wild(r *rand.Rand) api.Net {
	n := api.Net{Cap: pick(r, 0, 1, 5, mostNodes, mostNodes+1, -1, most, fewest)}
	for range 1 + r.Intn(5) {
		x := api.Node{
			Kind:  pick(r, 0, 0, 1, 2, 8, 9, 13, 14, -1, most, fewest),
			Level: pick(r, 0, 1, 60, 61, -1),
			N:     pick(r, 0, 1, most, fewest),
			Name:  pick(r, "", "", "Cons", "let", "\x00"),
			Alts:  pick(r, nil, nil, []api.Arity{}, []api.Arity{{Name: "A", N: 9}, {}, {Name: "A", N: -1}}),
		}
		x.To = make([]api.Port, r.Intn(4))
		n.Nodes = append(n.Nodes, x)
	}
	for _, p := range ports(n) {
		n.Nodes[p.Node].To[p.Slot] = somePort(r, n)
	}
	return n
}

// somePort is one that is there, or any.
func somePort(r *rand.Rand, n api.Net) api.Port {
	return pick(r, append(ports(n), anyPort(r))...)
}

func anyPort(r *rand.Rand) api.Port {
	return port(pick(r, 0, 0, 1, 1, 2, 2, 3, 4, 5, -1, most, fewest), pick(r, 0, 0, 0, 1, 1, 2, 3, -1, most, fewest))
}

// ports are all that are there, in their order.
func ports(n api.Net) []api.Port {
	var l []api.Port
	for at, x := range n.Nodes {
		for slot := range x.To {
			l = append(l, port(at, slot))
		}
	}
	return l
}

// absent are ports that are not there.
func absent(n api.Net) []api.Port {
	size := len(n.Nodes)
	l := []api.Port{port(size, 0), port(size+1, 0), port(-1, 0), port(-1, -1), port(most, most), port(fewest, fewest), port(fewest, 0), port(most, 0)}
	for at, x := range n.Nodes {
		for _, slot := range []int{len(x.To), len(x.To) + 1, -1, -2, most, fewest} {
			l = append(l, port(at, slot))
		}
	}
	return l
}

// copied is n, of which no list and no name is n's; what is behind lists of n is not there.
func copied(n api.Net) api.Net {
	var l []api.Node
	for _, x := range n.Nodes {
		x.Name = strings.Clone(x.Name)
		x.To = slices.Clone(x.To)
		var alts []api.Arity
		for _, a := range x.Alts {
			alts = append(alts, api.Arity{Name: strings.Clone(a.Name), N: a.N})
		}
		x.Alts = alts
		l = append(l, x)
	}
	n.Nodes = l
	return n
}

func sameNode(a, b api.Node) bool {
	return a.Kind == b.Kind && a.Level == b.Level && a.N == b.N && a.Name == b.Name && slices.Equal(a.Alts, b.Alts) && slices.Equal(a.To, b.To)
}

func same(a, b api.Net) bool {
	return a.Cap == b.Cap && slices.EqualFunc(a.Nodes, b.Nodes, sameNode)
}

// told is x as a failure tells it: no more than its first bytes.
func told(x any) string {
	s := fmt.Sprintf("%+q", fmt.Sprint(x))
	if len(s) > 600 {
		s = s[:600] + ".."
	}
	return s
}

// The promises, read otherwise: of a map of all links.

func links(n api.Net) map[api.Port]api.Port {
	m := map[api.Port]api.Port{}
	for _, p := range ports(n) {
		m[p] = n.Nodes[p.Node].To[p.Slot]
	}
	return m
}

// with is n with these links.
func with(n api.Net, m map[api.Port]api.Port) api.Net {
	n = copied(n)
	for p, q := range m {
		n.Nodes[p.Node].To[p.Slot] = q
	}
	return n
}

// areThere tells if all of l are there, and no one of them stands in it twice.
func areThere(n api.Net, l ...api.Port) bool {
	left := links(n)
	for _, p := range l {
		if _, is := left[p]; !is {
			return false
		}
		delete(left, p)
	}
	return true
}

func readPeer(n api.Net, p api.Port) (api.Port, api.Errno) {
	if !areThere(n, p) {
		return api.Port{}, errPort
	}
	return links(n)[p], api.OK
}

func readLink(n api.Net, p, q api.Port) (api.Net, api.Errno) {
	if !areThere(n, p, q) {
		return n, errPort
	}
	return with(n, map[api.Port]api.Port{p: q, q: p}), api.OK
}

func readMove(n api.Net, p, q api.Port) (api.Net, api.Errno) {
	is := links(n)
	switch {
	case !areThere(n, p, q), !areThere(n, is[p]):
		return n, errPort
	case is[p] == q:
		return n, api.OK
	}
	return with(n, map[api.Port]api.Port{q: is[p], is[p]: q}), api.OK
}

func readJoin(n api.Net, p, q api.Port) (api.Net, api.Errno) {
	is := links(n)
	switch {
	case !areThere(n, p, q), !areThere(n, is[p]), !areThere(n, is[q]):
		return n, errPort
	case is[p] == q:
		return n, api.OK
	case is[p] == is[q]:
		return n, errPort
	}
	return with(n, map[api.Port]api.Port{is[q]: is[p], is[p]: is[q]}), api.OK
}

// Checks.

// call is one that links: Link, Move or Join.
type call struct {
	name string
	do   func(n api.Net, p, q api.Port) (api.Net, api.Errno)
	read func(n api.Net, p, q api.Port) (api.Net, api.Errno)
}

func link() call { return call{"Link", wire.Link, readLink} }
func move() call { return call{"Move", wire.Move, readMove} }
func join() call { return call{"Join", wire.Join, readJoin} }

func calls() []call { return []call{link(), move(), join()} }

func checkPeer(t *testing.T, n api.Net, p, want api.Port, e api.Errno) {
	t.Helper()
	if got, err := wire.Peer(n, p); got != want || err != e {
		t.Errorf("Peer(%s, %v): %v, %d; want %v, %d", told(n), p, got, err, want, e)
	}
}

func (c call) check(t *testing.T, n api.Net, p, q api.Port, want api.Net, e api.Errno) {
	t.Helper()
	if got, err := c.do(n, p, q); err != e || !same(got, want) {
		t.Errorf("%s(%s, %v, %v): %s, %d; want %s, %d", c.name, told(n), p, q, told(got), err, told(want), e)
	}
}

// linked asks that n is told with just these links, a port and the one that it is linked to.
func (c call) linked(t *testing.T, n api.Net, p, q api.Port, l ...api.Port) {
	t.Helper()
	want := copied(n)
	for i := 0; i < len(l); i += 2 {
		want.Nodes[l[i].Node].To[l[i].Slot] = l[i+1]
	}
	c.check(t, n, p, q, want, api.OK)
}

// refused asks for the error, and the net as it is.
func (c call) refused(t *testing.T, n api.Net, p, q api.Port) {
	t.Helper()
	c.check(t, n, p, q, n, errPort)
}

// checkRead holds all that is told of n and two ports against the promises' reading.
func checkRead(t *testing.T, n api.Net, p, q api.Port) {
	t.Helper()
	want, e := readPeer(n, p)
	checkPeer(t, n, p, want, e)
	for _, c := range calls() {
		want, e := c.read(n, p, q)
		c.check(t, n, p, q, want, e)
	}
}

// must is what a call tells that is not refused.
func (c call) must(t *testing.T, n api.Net, p, q api.Port) api.Net {
	t.Helper()
	made, e := c.do(n, p, q)
	if e != api.OK {
		t.Fatalf("%s(%s, %v, %v): error %d", c.name, told(n), p, q, e)
	}
	return made
}

// P13.1, Peer.

func TestPeerOfANewNet(t *testing.T) {
	n, _ := store.New(5)
	checkPeer(t, n, port(0, 0), port(1, 0), api.OK)
	checkPeer(t, n, port(1, 0), port(0, 0), api.OK)
	for _, p := range absent(n) {
		checkPeer(t, n, p, api.Port{}, errPort)
	}
}

func TestPeers(t *testing.T) {
	n := star()
	for p, q := range map[api.Port]api.Port{port(0, 0): port(1, 0), port(1, 1): port(2, 0), port(1, 2): port(3, 0), port(5, 0): port(6, 0)} {
		checkPeer(t, n, p, q, api.OK)
		checkPeer(t, n, q, p, api.OK)
	}
	for _, p := range absent(n) {
		checkPeer(t, n, p, api.Port{}, errPort)
	}
	// A free place has no ports.
	checkPeer(t, n, port(4, 0), api.Port{}, errPort)
	checkPeer(t, api.Net{}, api.Port{}, api.Port{}, errPort)
	checkPeer(t, api.Net{Cap: 9, Nodes: make([]api.Node, 4)}, api.Port{}, api.Port{}, errPort)
}

// odd is a net that may not be, in any way: what is there is told by its nodes' links alone.
func odd() api.Net {
	return api.Net{Cap: -1, Nodes: []api.Node{
		{Kind: 99, Level: -4, To: []api.Port{port(1, 0), port(-1, 0), port(7, 3), port(1, 2)}},
		{Kind: none, Name: "x", To: []api.Port{port(0, 0), port(1, 1), port(0, 3)}},
		{Kind: lam},
		{Kind: root, N: 5, To: []api.Port{port(0, 0), port(3, 0), port(4, 0)}},
	}}
}

func TestPeerTellsWhatIsThere(t *testing.T) {
	n := odd()
	for _, p := range ports(n) {
		// Whether that is there or not, and linked to p or not.
		checkPeer(t, n, p, n.Nodes[p.Node].To[p.Slot], api.OK)
	}
	for _, p := range absent(n) {
		checkPeer(t, n, p, api.Port{}, errPort)
	}
}

// P13.1, Link.

func TestLink(t *testing.T) {
	n := star()
	for _, p := range ports(n) {
		for _, q := range ports(n) {
			if p == q {
				link().refused(t, n, p, q)
				continue
			}
			// What they were linked to before is left as it is.
			link().linked(t, n, p, q, p, q, q, p)
			made := link().must(t, n, p, q)
			checkPeer(t, made, p, q, api.OK)
			checkPeer(t, made, q, p, api.OK)
			link().check(t, made, q, p, made, api.OK)
		}
	}
}

func TestLinkOfWhatWasMade(t *testing.T) {
	n, _ := store.New(5)
	n, at, e := store.Make(n, node(lam, 0))
	if e != api.OK || store.Check(n) == api.OK {
		t.Fatal(at, e)
	}
	n = link().must(t, n, port(at, 1), port(at, 2))
	n = link().must(t, n, port(0, 0), port(at, 0))
	checkPeer(t, n, port(1, 0), port(0, 0), api.OK)
	n, e = store.Free(n, 1)
	if e != api.OK || store.Check(n) != api.OK {
		t.Error(told(n), e)
	}
}

func TestWhatIsNotThereIsRefused(t *testing.T) {
	for _, n := range []api.Net{star(), odd(), {}, {Cap: 3, Nodes: make([]api.Node, 2)}} {
		for _, c := range calls() {
			for _, p := range absent(n) {
				for _, q := range slices.Concat(ports(n), absent(n)) {
					c.refused(t, n, p, q)
					c.refused(t, n, q, p)
				}
			}
		}
	}
}

func TestOnePortTwiceIsRefused(t *testing.T) {
	for _, n := range []api.Net{star(), odd()} {
		for _, c := range calls() {
			for _, p := range ports(n) {
				c.refused(t, n, p, p)
			}
		}
	}
	// One that is linked to itself, too.
	n := star()
	bind(n, port(5, 0), port(5, 0))
	for _, c := range calls() {
		c.refused(t, n, port(5, 0), port(5, 0))
	}
}

func TestNetsAreNotLookedAt(t *testing.T) {
	n := odd()
	link().linked(t, n, port(0, 2), port(1, 1), port(0, 2), port(1, 1), port(1, 1), port(0, 2))
	link().linked(t, n, port(3, 2), port(3, 0), port(3, 2), port(3, 0), port(3, 0), port(3, 2))
	move().linked(t, n, port(1, 0), port(3, 1), port(3, 1), port(0, 0), port(0, 0), port(3, 1))
	join().linked(t, n, port(0, 0), port(1, 2), port(1, 0), port(0, 3), port(0, 3), port(1, 0))
}

// P13.2, Move.

// withFresh is n with a NodeApp at its end, whose ports are not linked, and its port 1.
func withFresh(n api.Net) (api.Net, api.Port) {
	n = copied(n)
	n.Nodes = append(n.Nodes, node(app, 3))
	return n, port(len(n.Nodes)-1, 1)
}

func TestMoveToWhatWasMade(t *testing.T) {
	n, q := withFresh(star())
	for _, p := range ports(star()) {
		s := n.Nodes[p.Node].To[p.Slot]
		move().linked(t, n, p, q, q, s, s, q)
		made := move().must(t, n, p, q)
		checkPeer(t, made, q, s, api.OK)
		checkPeer(t, made, s, q, api.OK)
		// p is left as it is.
		checkPeer(t, made, p, s, api.OK)
	}
}

func TestMoveToWhatIsLinked(t *testing.T) {
	n := star()
	// The port that q was linked to is left as it is.
	move().linked(t, n, port(1, 1), port(5, 0), port(5, 0), port(2, 0), port(2, 0), port(5, 0))
	move().linked(t, n, port(5, 0), port(1, 1), port(1, 1), port(6, 0), port(6, 0), port(1, 1))
	move().linked(t, n, port(0, 0), port(1, 1), port(1, 1), port(1, 0), port(1, 0), port(1, 1))
}

func TestMoveToThePeer(t *testing.T) {
	n := star()
	for _, p := range ports(n) {
		move().check(t, n, p, n.Nodes[p.Node].To[p.Slot], n, api.OK)
	}
	// Whatever q is linked to: nothing is asked but what p's peer is.
	for _, to := range []api.Port{port(5, 0), port(2, 0), port(4, 0), port(-1, 9), port(most, most)} {
		n := star()
		n.Nodes[2].To[0] = to
		move().check(t, n, port(1, 1), port(2, 0), n, api.OK)
	}
	// Of one that is linked to p, but p is not to it, p's peer is taken.
	n.Nodes[5].To[0] = port(1, 1)
	move().linked(t, n, port(1, 1), port(5, 0), port(5, 0), port(2, 0), port(2, 0), port(5, 0))
}

func TestMoveWithoutAPeer(t *testing.T) {
	for _, to := range absent(star()) {
		n := star()
		n.Nodes[2].To[0] = to
		for _, q := range ports(n) {
			move().refused(t, n, port(2, 0), q)
		}
		// q's peer need not be there.
		move().linked(t, n, port(5, 0), port(2, 0), port(2, 0), port(6, 0), port(6, 0), port(2, 0))
	}
}

func TestMoveOfAPortThatIsItsOwnPeer(t *testing.T) {
	n := star()
	bind(n, port(5, 0), port(5, 0))
	move().linked(t, n, port(5, 0), port(2, 0), port(2, 0), port(5, 0), port(5, 0), port(2, 0))
	move().linked(t, n, port(2, 0), port(5, 0), port(5, 0), port(1, 1), port(1, 1), port(5, 0))
}

// P13.2, Join.

func TestJoin(t *testing.T) {
	n := star()
	for _, p := range ports(n) {
		for _, q := range ports(n) {
			s, u := n.Nodes[p.Node].To[p.Slot], n.Nodes[q.Node].To[q.Slot]
			switch {
			case p == q:
				join().refused(t, n, p, q)
			case s == q:
				join().check(t, n, p, q, n, api.OK)
			default:
				join().linked(t, n, p, q, s, u, u, s)
				// p and q are left as they are.
				made := join().must(t, n, p, q)
				checkPeer(t, made, p, s, api.OK)
				checkPeer(t, made, q, u, api.OK)
			}
		}
	}
}

func TestJoinWithoutAPeer(t *testing.T) {
	for _, to := range absent(star()) {
		n := star()
		n.Nodes[2].To[0] = to
		for _, q := range ports(n) {
			join().refused(t, n, port(2, 0), q)
			join().refused(t, n, q, port(2, 0))
		}
	}
	// That p's peer is q is asked behind that.
	n := star()
	n.Nodes[2].To[0] = port(4, 0)
	checkPeer(t, n, port(1, 1), port(2, 0), api.OK)
	join().refused(t, n, port(1, 1), port(2, 0))
}

func TestJoinOfThePeer(t *testing.T) {
	// Whatever q is linked to, if it is there.
	for _, to := range ports(star()) {
		n := star()
		n.Nodes[2].To[0] = to
		join().check(t, n, port(1, 1), port(2, 0), n, api.OK)
	}
	// Of one that is linked to p, but p is not to it, p is a peer like others.
	n := star()
	n.Nodes[5].To[0] = port(1, 1)
	join().linked(t, n, port(1, 1), port(5, 0), port(2, 0), port(1, 1), port(1, 1), port(2, 0))
}

func TestJoinOfOnePeerTwice(t *testing.T) {
	for _, to := range ports(star()) {
		n := star()
		n.Nodes[5].To[0], n.Nodes[2].To[0] = to, to
		if to == port(2, 0) {
			// p's peer is q, which is its own one.
			join().check(t, n, port(5, 0), port(2, 0), n, api.OK)
			continue
		}
		join().refused(t, n, port(5, 0), port(2, 0))
	}
}

func TestJoinOfPortsThatAreTheirOwnPeers(t *testing.T) {
	n := star()
	bind(n, port(5, 0), port(5, 0))
	bind(n, port(6, 0), port(6, 0))
	join().linked(t, n, port(5, 0), port(6, 0), port(5, 0), port(6, 0), port(6, 0), port(5, 0))
	join().linked(t, n, port(5, 0), port(2, 0), port(5, 0), port(1, 1), port(1, 1), port(5, 0))
	join().linked(t, n, port(2, 0), port(5, 0), port(5, 0), port(1, 1), port(1, 1), port(5, 0))
}

// P13.3: what was linked is linked both ways; of a net that may be, what Move and Join leave behind are p, and q, alone.

// loose are the ports that are not linked both ways.
func loose(n api.Net) []api.Port {
	is := links(n)
	return slices.DeleteFunc(ports(n), func(p api.Port) bool {
		back, there := is[is[p]]
		return there && back == p && is[p] != p
	})
}

// checkLoose asks that those not linked both ways are these, in their order.
func checkLoose(t *testing.T, n api.Net, want ...api.Port) {
	t.Helper()
	slices.SortFunc(want, func(a, b api.Port) int {
		if a.Node != b.Node {
			return a.Node - b.Node
		}
		return a.Slot - b.Slot
	})
	if got := loose(n); !slices.Equal(got, want) {
		t.Errorf("of %s %v are loose; want %v", told(n), got, want)
	}
}

func TestWhatIsLinkedIsLinkedBothWays(t *testing.T) {
	t.Parallel()
	r := rand.New(rand.NewSource(2))
	linked := 0
	for range 20000 {
		n := wild(r)
		p, q := somePort(r, n), somePort(r, n)
		made, e := wire.Link(n, p, q)
		if e != api.OK {
			continue
		}
		linked++
		checkPeer(t, made, p, q, api.OK)
		checkPeer(t, made, q, p, api.OK)
	}
	if linked < 2000 {
		t.Error("some are few", linked)
	}
}

func TestWhatMoveLeavesBehind(t *testing.T) {
	t.Parallel()
	r := rand.New(rand.NewSource(3))
	for range 3000 {
		may := net(r, r.Intn(9))
		p := pick(r, ports(may)...)
		if store.Check(may) != api.OK {
			t.Fatal(told(may))
		}
		// To a node that was made: it alone was loose.
		n, at, e := store.Make(may, node(fail, 1))
		if e == api.OK {
			checkLoose(t, n, port(at, 0))
			checkLoose(t, move().must(t, n, p, port(at, 0)), p)
		}
		// To one that was linked: what it was linked to is loose as well.
		q := pick(r, ports(may)...)
		s, u := links(may)[p], links(may)[q]
		switch {
		case p == q:
		case s == q:
			checkLoose(t, move().must(t, may, p, q))
		default:
			checkLoose(t, move().must(t, may, p, q), p, u)
		}
	}
}

func TestWhatJoinLeavesBehind(t *testing.T) {
	t.Parallel()
	r := rand.New(rand.NewSource(4))
	peers := 0
	for range 3000 {
		n := net(r, r.Intn(9))
		p, q := pick(r, ports(n)...), pick(r, ports(n)...)
		if r.Intn(4) == 0 {
			q = links(n)[p]
		}
		switch {
		case p == q:
		case links(n)[p] == q:
			peers++
			checkLoose(t, join().must(t, n, p, q))
		default:
			checkLoose(t, join().must(t, n, p, q), p, q)
		}
	}
	if peers < 500 {
		t.Error("some are few", peers)
	}
}

// TestNodesAreTakenOut joins what two nodes that meet are linked to, and frees them: what is left may be.
func TestNodesAreTakenOut(t *testing.T) {
	t.Parallel()
	r := rand.New(rand.NewSource(5))
	for range 3000 {
		n := net(r, r.Intn(9))
		n.Cap += 2
		n, a, _ := store.Make(n, node(lam, 0))
		n, b, _ := store.Make(n, node(app, 0))
		n = link().must(t, n, port(a, 0), port(b, 0))
		// Two wires are cut, and linked to both of them; the second one may be of the first one's halves.
		for slot := 1; slot <= 2; slot++ {
			cut := slices.DeleteFunc(ports(n), func(p api.Port) bool {
				return p.Node == a && p.Slot >= slot || p.Node == b && p.Slot >= slot || p.Slot == 0 && (p.Node == a || p.Node == b)
			})
			p := pick(r, cut...)
			s := links(n)[p]
			n = link().must(t, n, p, port(a, slot))
			n = link().must(t, n, s, port(b, slot))
		}
		if e := store.Check(n); e != api.OK {
			t.Fatal(told(n), e)
		}
		n = join().must(t, n, port(a, 1), port(b, 1))
		n = join().must(t, n, port(a, 2), port(b, 2))
		n, _ = store.Free(n, max(a, b))
		n, _ = store.Free(n, min(a, b))
		if e := store.Check(n); e != api.OK {
			t.Errorf("of %s: %d", told(n), e)
		}
	}
}

// Nets of any sort.

func TestNetsThatMayBe(t *testing.T) {
	t.Parallel()
	r := rand.New(rand.NewSource(6))
	for range 8000 {
		n := net(r, r.Intn(12))
		all := slices.Concat(ports(n), ports(n), absent(n))
		checkRead(t, n, pick(r, all...), pick(r, all...))
		p := pick(r, ports(n)...)
		checkRead(t, n, p, links(n)[p])
	}
}

func TestHarmedNets(t *testing.T) {
	t.Parallel()
	r := rand.New(rand.NewSource(7))
	for range 20000 {
		n := net(r, r.Intn(4))
		for range 1 + r.Intn(3) {
			p := pick(r, ports(n)...)
			n.Nodes[p.Node].To[p.Slot] = pick(r, slices.Concat(ports(n), ports(n), absent(n))...)
		}
		checkRead(t, n, pick(r, ports(n)...), pick(r, ports(n)...))
	}
}

func TestWildNets(t *testing.T) {
	t.Parallel()
	r := rand.New(rand.NewSource(8))
	told := map[api.Errno]int{}
	for range 60000 {
		n := wild(r)
		p, q := somePort(r, n), somePort(r, n)
		checkRead(t, n, p, q)
		_, e := wire.Join(n, p, q)
		told[e]++
	}
	if told[api.OK] < 1000 || told[errPort] < 1000 || len(told) != 2 {
		t.Error("some are few", told)
	}
}

// TestAllSmallNets takes each way in which the four ports of three nodes could be linked, and each two ports.
func TestAllSmallNets(t *testing.T) {
	t.Parallel()
	ends := []api.Port{port(0, 0), port(1, 0), port(1, 1), port(2, 0), port(1, -1), port(2, 1), port(-1, 0), port(3, 0)}
	for i := range 8 * 8 * 8 * 8 {
		to := func(k int) api.Port { return ends[i>>(3*k)&7] }
		n := api.Net{Cap: 3, Nodes: []api.Node{
			{Kind: root, To: []api.Port{to(0)}},
			{Kind: open, To: []api.Port{to(1), to(2)}},
			{Kind: drop, To: []api.Port{to(3)}},
		}}
		for _, p := range ends[:5] {
			for _, q := range ends[:5] {
				checkRead(t, n, p, q)
			}
		}
	}
}

// TestManyLinks holds a net against a map of its links, one call behind the other.
func TestManyLinks(t *testing.T) {
	t.Parallel()
	r := rand.New(rand.NewSource(9))
	for range 100 {
		n := net(r, 10)
		kept := links(n)
		for range 200 {
			p, q := pick(r, ports(n)...), pick(r, ports(n)...)
			c := pick(r, calls()...)
			made, e := c.do(n, p, q)
			ends := map[string][2]api.Port{"Link": {p, q}, "Move": {kept[p], q}, "Join": {kept[p], kept[q]}}[c.name]
			switch {
			case p == q || ends[0] == ends[1] && c.name == "Join":
				if e != errPort {
					t.Fatalf("%s(%s, %v, %v): %d", c.name, told(n), p, q, e)
				}
			case c.name != "Link" && kept[p] == q:
			default:
				kept[ends[0]], kept[ends[1]] = ends[1], ends[0]
			}
			if n = made; !maps.Equal(links(n), kept) {
				t.Fatalf("%s(%v, %v): %s; want %v", c.name, p, q, told(n), told(kept))
			}
		}
	}
}

// P1, and the rules: every call ends, none panics; nothing is changed, shared or kept.

func TestLargeNets(t *testing.T) {
	t.Parallel()
	const large = 1 << 19
	n := api.Net{Cap: most, Nodes: make([]api.Node, large)}
	n.Nodes[3].To = make([]api.Port, large)
	n.Nodes[large-1].To = make([]api.Port, 1)
	p, q := port(3, large-1), port(large-1, 0)
	made := link().must(t, n, p, q)
	checkPeer(t, made, p, q, api.OK)
	checkPeer(t, made, q, p, api.OK)
	made = move().must(t, made, p, port(3, 0))
	checkPeer(t, made, port(3, 0), q, api.OK)
	checkPeer(t, made, q, port(3, 0), api.OK)
	for _, c := range calls() {
		c.refused(t, n, port(3, large), q)
		c.refused(t, n, p, port(large, 0))
	}
}

// roomy is n, each of whose lists has room behind it.
func roomy(n api.Net) api.Net {
	n = copied(n)
	l := make([]api.Node, 0, len(n.Nodes)+3)
	for _, x := range n.Nodes {
		x.Alts = append(make([]api.Arity, 0, len(x.Alts)+3), x.Alts...)
		x.To = append(make([]api.Port, 0, len(x.To)+3), x.To...)
		l = append(l, x)
	}
	n.Nodes = l
	return n
}

// whole is n, each of whose lists goes on to the end of its room.
func whole(n api.Net) api.Net {
	l := slices.Clone(n.Nodes[:cap(n.Nodes)])
	for i, x := range l {
		l[i].To, l[i].Alts = x.To[:cap(x.To)], x.Alts[:cap(x.Alts)]
	}
	return copied(api.Net{Cap: n.Cap, Nodes: l})
}

// spoil writes into all that n has.
func spoil(n api.Net) {
	l := n.Nodes[:cap(n.Nodes)]
	for i := range l {
		for j := range l[i].To[:cap(l[i].To)] {
			l[i].To[:cap(l[i].To)][j] = port(-77, -77)
		}
		for j := range l[i].Alts[:cap(l[i].Alts)] {
			l[i].Alts[:cap(l[i].Alts)][j] = api.Arity{Name: "spoilt", N: -77}
		}
		l[i] = api.Node{Kind: -77}
	}
}

func TestArgumentsAreLeft(t *testing.T) {
	t.Parallel()
	r := rand.New(rand.NewSource(10))
	for i := range 6000 {
		want := net(r, r.Intn(8))
		if i%3 == 0 {
			want = wild(r)
		}
		n := roomy(want)
		p, q := somePort(r, n), somePort(r, n)
		behind := whole(n)
		for _, c := range calls() {
			made, _ := c.do(n, p, q)
			spoil(made)
		}
		if !same(n, want) || !same(whole(n), behind) {
			t.Errorf("%s was changed: %s", told(want), told(n))
		}
	}
}

// TestNodesThatShareTheirLists has two nodes whose links are in one memory: each one has its own in the answer.
func TestNodesThatShareTheirLists(t *testing.T) {
	n := star()
	n.Nodes[5].To = n.Nodes[1].To
	link().linked(t, n, port(5, 1), port(6, 0), port(5, 1), port(6, 0), port(6, 0), port(5, 1))
	move().linked(t, n, port(2, 0), port(5, 2), port(5, 2), port(1, 1), port(1, 1), port(5, 2))
}

// span is where a list, or a text, lies.
type span struct{ from, to uintptr }

func list[T any](l []T) span {
	from := uintptr(unsafe.Pointer(unsafe.SliceData(l)))
	return span{from, from + uintptr(cap(l))*unsafe.Sizeof(*new(T))}
}

func text(s string) span {
	from := uintptr(unsafe.Pointer(unsafe.StringData(s)))
	return span{from, from + uintptr(len(s))}
}

// memory is where all that n has lies, but what is empty.
func memory(n api.Net) []span {
	l := []span{list(n.Nodes)}
	for _, x := range n.Nodes {
		l = append(l, list(x.To), list(x.Alts), text(x.Name))
		for _, a := range x.Alts {
			l = append(l, text(a.Name))
		}
	}
	return slices.DeleteFunc(l, func(s span) bool { return s.from == s.to })
}

// checkApart asks that these nets share nothing, and no two lists and names of one.
func checkApart(t *testing.T, l ...api.Net) {
	t.Helper()
	var all []span
	for _, n := range l {
		all = append(all, memory(n)...)
	}
	slices.SortFunc(all, func(a, b span) int { return int(a.from) - int(b.from) })
	for i := 1; i < len(all); i++ {
		if all[i].from < all[i-1].to {
			t.Errorf("of %s memory is shared", told(l))
			return
		}
	}
}

func TestAnswersAreNewMemory(t *testing.T) {
	t.Parallel()
	r := rand.New(rand.NewSource(11))
	for range 2000 {
		n := copied(net(r, r.Intn(8)))
		p, q := pick(r, ports(n)...), pick(r, ports(n)...)
		// Two ports, a port and its peer, one port twice, one that is not there.
		for _, q := range []api.Port{q, links(n)[p], p, port(-1, 0)} {
			all := []api.Net{n}
			for _, c := range calls() {
				made, _ := c.do(n, p, q)
				all = append(all, made)
			}
			checkApart(t, all...)
		}
	}
}

func TestNothingIsKept(t *testing.T) {
	r := rand.New(rand.NewSource(12))
	for range 1000 {
		n, m := net(r, r.Intn(8)), net(r, r.Intn(8))
		p, q := pick(r, ports(n)...), pick(r, ports(n)...)
		for range 2 {
			checkRead(t, n, p, q)
			for _, c := range calls() {
				made, _ := c.do(copied(n), p, q)
				spoil(made)
			}
			checkRead(t, m, p, q)
		}
	}
}

func TestEmptyListsAndNilOnes(t *testing.T) {
	for _, nodes := range [][]api.Node{nil, {}, {{}}, {{To: []api.Port{}, Alts: []api.Arity{}}}} {
		n := api.Net{Cap: 4, Nodes: nodes}
		checkPeer(t, n, api.Port{}, api.Port{}, errPort)
		for _, c := range calls() {
			c.refused(t, n, port(0, 0), port(0, 1))
			c.refused(t, n, port(0, 0), port(0, 0))
		}
		n.Nodes = append(slices.Clone(nodes), node(num, 1), node(num, 1))
		last := len(n.Nodes) - 1
		link().linked(t, n, port(last, 0), port(last-1, 0), port(last, 0), port(last-1, 0), port(last-1, 0), port(last, 0))
	}
}

func TestCallsAtOneTime(t *testing.T) {
	r := rand.New(rand.NewSource(13))
	var all []api.Net
	for range 50 {
		all = append(all, net(r, 10))
	}
	var wait sync.WaitGroup
	for i := range 8 {
		wait.Go(func() {
			for _, n := range all {
				l := ports(n)
				checkRead(t, n, l[i%len(l)], l[(i*i)%len(l)])
			}
		})
	}
	wait.Wait()
}
