package calls_test

import (
	"slices"
	"strconv"
	"strings"
	"testing"

	"bolthole/api"
	"bolthole/calls"
	"bolthole/parse"
)

// modelOf is what a part calls, by all parts that it has.
func modelOf(p api.Part) []string {
	var l []string
	for _, q := range parse.All(p) {
		if q.Kind == "call" && !slices.Contains(l, q.Text) {
			l = append(l, q.Text)
		}
	}
	slices.Sort(l)
	return l
}

// model is, by the names of the nodes that count, which of these each one reaches; called is which it calls.
type model struct{ called, reaches map[string]map[string]bool }

// newModel is that of a list.
func newModel(l []calls.Node) model {
	m := model{map[string]map[string]bool{}, map[string]map[string]bool{}}
	first := map[string]calls.Node{}
	for _, n := range slices.Backward(l) {
		first[n.Name] = n
	}
	for name, n := range first {
		m.called[name], m.reaches[name] = map[string]bool{}, map[string]bool{}
		for _, c := range n.Calls {
			if _, there := first[c]; there {
				m.called[name][c], m.reaches[name][c] = true, true
			}
		}
	}
	for by := range first {
		for from := range first {
			for to := range first {
				if m.reaches[from][by] && m.reaches[by][to] {
					m.reaches[from][to] = true
				}
			}
		}
	}
	return m
}

// names are those of all nodes, rising.
func (m model) names() []string {
	var l []string
	for name := range m.called {
		l = append(l, name)
	}
	slices.Sort(l)
	return l
}

// group is a node's, rising.
func (m model) group(name string) []string {
	var l []string
	for _, other := range m.names() {
		if other == name || m.reaches[name][other] && m.reaches[other][name] {
			l = append(l, other)
		}
	}
	return l
}

// ready tells whether all nodes of a group call none but their own and those that are told.
func (m model) ready(group []string, told map[string]bool) bool {
	for _, name := range group {
		for c := range m.called[name] {
			if !told[c] && !slices.Contains(group, c) {
				return false
			}
		}
	}
	return true
}

// groups are all, in order: again and again, the first name whose group is not told, and ready, is the least that begins one.
func (m model) groups() [][]string {
	var all [][]string
	told := map[string]bool{}
	for len(told) < len(m.called) {
		for _, name := range m.names() {
			if group := m.group(name); !told[name] && m.ready(group, told) {
				all = append(all, group)
				for _, n := range group {
					told[n] = true
				}
				break
			}
		}
	}
	return all
}

// users are some names, and of all nodes that reach one of them.
func (m model) users(asked ...string) []string {
	var l []string
	for _, name := range m.names() {
		reaches := func(to string) bool { return m.called[to] != nil && (name == to || m.reaches[name][to]) }
		if slices.ContainsFunc(asked, reaches) {
			l = append(l, name)
		}
	}
	return l
}

// tellNodes writes nodes.
func tellNodes(l []calls.Node) string {
	var b strings.Builder
	for _, n := range l {
		b.WriteString(strconv.Quote(n.Name) + " calls" + tellNames(n.Calls) + "; ")
	}
	return b.String()
}

// tellNames writes names.
func tellNames(l []string) string {
	var b strings.Builder
	for _, name := range l {
		b.WriteString(" " + strconv.Quote(name))
	}
	return b.String()
}

// tellGroups writes groups.
func tellGroups(l [][]string) string {
	var b strings.Builder
	for _, g := range l {
		b.WriteString("(" + tellNames(g) + " )")
	}
	return b.String()
}

// holdAhead holds P15.2: each node is in one group, and what it calls is in its group, or one ahead.
func holdAhead(t *testing.T, l []calls.Node, groups [][]string) {
	t.Helper()
	places := map[string]int{}
	for i, g := range groups {
		for _, name := range g {
			if _, twice := places[name]; twice {
				t.Fatalf("%s: %q twice in%s", tellNodes(l), name, tellGroups(groups))
			}
			places[name] = i
		}
	}
	first := map[string]bool{}
	for _, n := range l {
		if first[n.Name] {
			continue
		}
		first[n.Name] = true
		at, in := places[n.Name]
		if !in {
			t.Fatalf("%s: %q in none of%s", tellNodes(l), n.Name, tellGroups(groups))
		}
		for _, c := range n.Calls {
			if called, in := places[c]; in && called > at {
				t.Fatalf("%s: %q calls %q behind it in%s", tellNodes(l), n.Name, c, tellGroups(groups))
			}
		}
	}
	if len(first) != len(places) {
		t.Fatalf("%s: others in%s", tellNodes(l), tellGroups(groups))
	}
}

// holdNet holds all that is told of nodes against the model.
func holdNet(t *testing.T, l []calls.Node, asked ...[]string) {
	t.Helper()
	m := newModel(l)
	groups := calls.Groups(l...)
	if want := m.groups(); tellGroups(groups) != tellGroups(want) {
		t.Fatalf("%s: Groups:%s, not%s", tellNodes(l), tellGroups(groups), tellGroups(want))
	}
	holdAhead(t, l, groups)
	names := append(m.names(), "nowhere")
	for _, n := range l {
		names = append(names, n.Calls...)
	}
	for _, name := range names {
		if got, want := calls.Round(l, name), m.reaches[name][name]; got != want {
			t.Fatalf("%s: Round of %q: %t", tellNodes(l), name, got)
		}
		asked = append(asked, []string{name})
	}
	for _, a := range append(asked, nil, names) {
		if got, want := calls.Users(l, a...), m.users(a...); !slices.Equal(got, want) {
			t.Fatalf("%s: Users of%s:%s, not%s", tellNodes(l), tellNames(a), tellNames(got), tellNames(want))
		}
	}
}
