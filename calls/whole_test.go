package calls_test

import (
	"slices"
	"strconv"
	"testing"

	"bolthole/calls"
)

// numbers come in an order without a rule that a reader could see, but each time the same one.
type numbers uint32

// below is the next one, below a limit.
func (n *numbers) below(limit int) int {
	*n = *n*1664525 + 1013904223
	return int(*n>>8) % limit
}

// net is many nodes, of which each calls so many at most; some are of one name, and some names no node has.
func (n *numbers) net(many, most int) []calls.Node {
	var l []calls.Node
	name := func() string { return strconv.Itoa(n.below(many*3/4 + 2)) }
	for range many {
		x := calls.Node{Name: name()}
		for range n.below(most + 1) {
			x.Calls = append(x.Calls, name())
		}
		l = append(l, x)
	}
	return l
}

// drawn is the net of a number, whose bits say which of its nodes calls which; the nodes stand in an order of the number's own.
func drawn(number int, names ...string) []calls.Node {
	var l []calls.Node
	for i, name := range names {
		x := calls.Node{Name: name}
		for j, called := range names {
			if number>>(i*len(names)+j)&1 == 1 {
				x.Calls = append(x.Calls, called)
			}
		}
		l = slices.Insert(l, number%(len(l)+1), x)
	}
	return l
}

// TestAllSmallNets has all ways in which up to three nodes may call one another, and one of seven of those of four: P15.1 and P15.2.
func TestAllSmallNets(t *testing.T) {
	for number := range 1 << 1 {
		holdNet(t, drawn(number, "a"))
	}
	for number := range 1 << 4 {
		holdNet(t, drawn(number, "a", "b"))
	}
	for number := range 1 << 9 {
		holdNet(t, drawn(number, "a", "b", "c"), []string{"a", "b"}, []string{"c", "a"})
	}
	for number := 0; number < 1<<16; number += 7 {
		holdNet(t, drawn(number, "a", "b", "c", "d"))
	}
}

// TestManyNets has greater ones: P15.1 and P15.2.
func TestManyNets(t *testing.T) {
	n := numbers(15)
	groups, wide, round, twice := 0, 0, 0, 0
	for many := range 1200 {
		l := n.net(many%24, 1+many%4)
		holdNet(t, l, []string{"1", "2"}, []string{"7", "3", "7", "11"})
		told := calls.Groups(l...)
		for _, g := range told {
			groups++
			if len(g) > 1 {
				wide++
			}
			if calls.Round(l, g[0]) {
				round++
			}
		}
		if len(slices.Concat(told...)) < len(l) {
			twice++
		}
	}
	if groups-round < 400 || wide < 400 || round-wide < 400 || twice < 400 {
		t.Errorf("%d groups, %d wide, %d rounds, %d nets with two of a name", groups, wide, round, twice)
	}
}

// TestOthersOfName: nodes beyond the first of a name do not matter.
func TestOthersOfName(t *testing.T) {
	n := numbers(4)
	for range 300 {
		l := n.net(12, 3)
		seen := map[string]bool{}
		var first []calls.Node
		for _, x := range l {
			if !seen[x.Name] {
				first = append(first, x)
			}
			seen[x.Name] = true
		}
		if tellGroups(calls.Groups(l...)) != tellGroups(calls.Groups(first...)) {
			t.Errorf("%s: Groups:%s", tellNodes(l), tellGroups(calls.Groups(l...)))
		}
		for name := range 16 {
			name := strconv.Itoa(name)
			if calls.Round(l, name) != calls.Round(first, name) || !slices.Equal(calls.Users(l, name, "3"), calls.Users(first, name, "3")) {
				t.Errorf("%s: Round, or Users, of %s", tellNodes(l), name)
			}
		}
	}
}

// TestAnyOrder: how nodes stand, and how each one's names do, does not matter where all have names of their own.
func TestAnyOrder(t *testing.T) {
	n := numbers(6)
	for range 200 {
		l := drawn(n.below(1<<16)<<8+n.below(1<<8), "a", "b", "c", "d", "e")
		groups, users := calls.Groups(l...), calls.Users(l, "c", "e")
		for range 6 {
			i, j := n.below(5), n.below(5)
			l[i], l[j] = l[j], l[i]
			slices.Reverse(l[i].Calls)
			if tellGroups(calls.Groups(l...)) != tellGroups(groups) || !slices.Equal(calls.Users(l, "e", "c"), users) {
				t.Errorf("%s: Groups:%s", tellNodes(l), tellGroups(calls.Groups(l...)))
			}
		}
	}
}
