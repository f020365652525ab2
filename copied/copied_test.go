package copied_test

import (
	"reflect"
	"strings"
	"testing"

	"gossamer/api"
	"gossamer/copied"
)

// sample is a net that has one of each thing that there is in nets, and lists with room behind them.
func sample() api.Net {
	ports := append(make([]api.Port, 0, 9), api.Port{Node: 1, Slot: 2}, api.Port{Node: -3, Slot: 4})
	alts := append(make([]api.Arity, 0, 9), api.Arity{Name: strings.Repeat("A", 3), N: 2}, api.Arity{Name: "B"})
	return api.Net{Cap: -5, Nodes: append(make([]api.Node, 0, 9),
		api.Node{Kind: 8, Level: 61, N: 7, Name: strings.Repeat("C", 3), Alts: alts, To: ports},
		api.Node{},
		api.Node{Kind: -1, To: []api.Port{{Node: 5}}},
		api.Node{Kind: 9, Alts: []api.Arity{{Name: "D", N: 1}}},
	)}
}

// spoil writes into all lists of n, and into what is behind them.
func spoil(n api.Net) {
	for _, x := range n.Nodes {
		spoilAlts(x.Alts)
		for i := range x.To[:cap(x.To)] {
			x.To[:cap(x.To)][i] = api.Port{Node: -77, Slot: -77}
		}
	}
	for i := range n.Nodes[:cap(n.Nodes)] {
		n.Nodes[:cap(n.Nodes)][i] = api.Node{Kind: -77}
	}
}

func spoilAlts(l []api.Arity) {
	for i := range l[:cap(l)] {
		l[:cap(l)][i] = api.Arity{Name: "spoilt", N: -77}
	}
}

func TestNet(t *testing.T) {
	n := sample()
	got := copied.Net(n)
	if !reflect.DeepEqual(got, sample()) {
		t.Errorf("%v; want %v", got, sample())
	}
	again := copied.Net(n)
	spoil(got)
	if !reflect.DeepEqual(n, sample()) || !reflect.DeepEqual(again, sample()) {
		t.Errorf("what was written into a copy is in %v, or in %v", n, again)
	}
	for _, x := range n.Nodes[len(n.Nodes):cap(n.Nodes)] {
		if !reflect.DeepEqual(x, api.Node{}) {
			t.Errorf("behind the nodes there is %v", x)
		}
	}
}

// TestListsOfACopyAreApart writes behind each list of a copy: nothing else of it is there.
func TestListsOfACopyAreApart(t *testing.T) {
	n := copied.Net(sample())
	for _, x := range n.Nodes {
		_ = append(x.To, api.Port{Node: -77})
		_ = append(x.Alts, api.Arity{Name: "spoilt"})
	}
	if !reflect.DeepEqual(n, sample()) {
		t.Errorf("%v; want %v", n, sample())
	}
	// Two lists of one memory are of two in the copy.
	n = sample()
	n.Nodes[1].To, n.Nodes[1].Alts = n.Nodes[0].To, n.Nodes[0].Alts
	got := copied.Net(n)
	got.Nodes[1].To[0], got.Nodes[1].Alts[0] = api.Port{}, api.Arity{}
	if !reflect.DeepEqual(got.Nodes[0], sample().Nodes[0]) {
		t.Errorf("%v; want %v", got.Nodes[0], sample().Nodes[0])
	}
}

func TestNetsWithoutAnything(t *testing.T) {
	for _, n := range []api.Net{{}, {Cap: 3}, {Nodes: []api.Node{}}, {Nodes: []api.Node{{To: []api.Port{}, Alts: []api.Arity{}}}}} {
		if got := copied.Net(n); !reflect.DeepEqual(got, n) {
			t.Errorf("%v; want %v", got, n)
		}
	}
}

func TestAlts(t *testing.T) {
	for _, l := range [][]api.Arity{nil, {}, sample().Nodes[0].Alts, sample().Nodes[3].Alts} {
		want := append([]api.Arity{}, l...)
		got := copied.Alts(l)
		if len(got) != len(want) || len(want) > 0 && !reflect.DeepEqual(got, want) {
			t.Errorf("%v; want %v", got, want)
		}
		spoilAlts(got)
		if !reflect.DeepEqual(append([]api.Arity{}, l...), want) {
			t.Errorf("%v; want %v", l, want)
		}
	}
}
