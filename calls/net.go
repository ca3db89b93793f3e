package calls

import (
	"maps"
	"slices"
)

// net is the nodes that count. Each is a number: its place among their names, rising; so numbers rise as names do.
type net struct {
	names   []string
	places  map[string]int // by names
	calls   ways
	callers ways
}

// ways lead from each node to others, now and then to one by several.
type ways [][]int

// newNet is that of a list.
func newNet(l []Node) *net {
	calls := map[string][]string{}
	for _, n := range l {
		if _, again := calls[n.Name]; !again {
			calls[n.Name] = n.Calls
		}
	}
	n := &net{names: slices.Sorted(maps.Keys(calls)), places: map[string]int{}}
	for at, name := range n.names {
		n.places[name] = at
	}
	n.calls, n.callers = make(ways, len(n.names)), make(ways, len(n.names))
	for at, name := range n.names {
		for _, called := range calls[name] {
			if to, there := n.places[called]; there {
				n.calls[at] = append(n.calls[at], to)
				n.callers[to] = append(n.callers[to], at)
			}
		}
	}
	return n
}

// named are the names of nodes.
func (n *net) named(l []int) []string {
	var names []string
	for _, at := range l {
		names = append(names, n.names[at])
	}
	return names
}

// reached are some nodes, and all that ways lead to from them, each once, rising.
func (w ways) reached(from ...int) []int {
	var l []int
	met := make([]bool, len(w))
	for _, at := range from {
		w.walk(at, met, func(at int) { l = append(l, at) })
	}
	slices.Sort(l)
	return l
}

// walk goes from a node to all that ways lead to and that were not met yet, and tells each when all that it found behind it are told.
func (w ways) walk(from int, met []bool, tell func(at int)) {
	if met[from] {
		return
	}
	met[from] = true
	// The path is a list: calls within calls could not go as far as ways may lead.
	type step struct{ at, gone int }
	for path := []step{{at: from}}; len(path) > 0; {
		last := &path[len(path)-1]
		if last.gone == len(w[last.at]) {
			tell(last.at)
			path = path[:len(path)-1]
			continue
		}
		to := w[last.at][last.gone]
		last.gone++
		if !met[to] {
			met[to] = true
			path = append(path, step{at: to})
		}
	}
}
