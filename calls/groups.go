package calls

import (
	"container/heap"
	"slices"
	"sort"
)

// groups are a net's. Each goes by its first node's number; so the least number is that of the least first name.
type groups struct {
	*net
	group []int   // of each node
	of    [][]int // of each group its nodes, rising; nothing where a number is no group's
}

// grouped puts each node into its group.
func (n *net) grouped() *groups {
	var left []int
	met := make([]bool, len(n.names))
	for at := range n.names {
		n.calls.walk(at, met, func(at int) { left = append(left, at) })
	}
	g := &groups{net: n, group: make([]int, len(n.names)), of: make([][]int, len(n.names))}
	// Of those that are in no group yet, the one that was left last reaches each one that reaches it: those are its group.
	clear(met)
	for _, last := range slices.Backward(left) {
		var l []int
		n.callers.walk(last, met, func(at int) { l = append(l, at) })
		g.add(l)
	}
	return g
}

// add makes nodes a group, if there are any.
func (g *groups) add(l []int) {
	if len(l) == 0 {
		return
	}
	slices.Sort(l)
	for _, at := range l {
		g.group[at] = l[0]
	}
	g.of[l[0]] = l
}

// ready is a call that tells, each time that it is called, the group that comes next; false, when all are told.
func (g *groups) ready() func() (int, bool) {
	waits := make([]int, len(g.group)) // of each group, how many of its nodes' calls go to others that are not told
	for at, called := range g.calls {
		for _, to := range called {
			if g.group[at] != g.group[to] {
				waits[g.group[at]]++
			}
		}
	}
	var could least
	for at, group := range g.group {
		if at == group && waits[group] == 0 {
			heap.Push(&could, group)
		}
	}
	return func() (int, bool) {
		if could.Len() == 0 {
			return 0, false
		}
		next := heap.Pop(&could).(int)
		for _, at := range g.of[next] {
			for _, caller := range g.callers[at] {
				group := g.group[caller]
				if group == next {
					continue
				}
				waits[group]--
				if waits[group] == 0 {
					heap.Push(&could, group)
				}
			}
		}
		return next, true
	}
}

// least are numbers of which the least is taken first.
type least struct{ sort.IntSlice }

// Push is what package heap asks for.
func (l *least) Push(x any) { l.IntSlice = append(l.IntSlice, x.(int)) }

// Pop is what package heap asks for.
func (l *least) Pop() any {
	last := len(l.IntSlice) - 1
	x := l.IntSlice[last]
	l.IntSlice = l.IntSlice[:last]
	return x
}
