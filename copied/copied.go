// Package copied tells what was handed in again, in new memory: an answer shares nothing with an argument.
package copied

import (
	"slices"
	"strings"

	"gossamer/api"
)

// Net is n in new memory.
func Net(n api.Net) api.Net {
	n.Nodes = slices.Clone(n.Nodes)
	// The ports are made at once, and cut: nets are copied at each call, and a list made for each node takes half as long again.
	all := ports(n.Nodes)
	for i := range n.Nodes {
		x := &n.Nodes[i]
		x.Name = strings.Clone(x.Name)
		x.Alts = Alts(x.Alts)
		if x.To != nil {
			size := len(x.To)
			x.To, all = all[:size:size], all[size:]
		}
	}
	return n
}

// ports are those of all nodes of l, one behind the other, in new memory.
func ports(l []api.Node) []api.Port {
	size := 0
	for _, x := range l {
		size += len(x.To)
	}
	all := make([]api.Port, 0, size)
	for _, x := range l {
		all = append(all, x.To...)
	}
	return all
}

// Alts are those of l in new memory.
func Alts(l []api.Arity) []api.Arity {
	l = slices.Clone(l)
	for i, a := range l {
		l[i].Name = strings.Clone(a.Name)
	}
	return l
}
