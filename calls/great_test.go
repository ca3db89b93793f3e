package calls_test

import (
	"runtime/debug"
	"slices"
	"strconv"
	"strings"
	"sync"
	"testing"

	"bolthole/calls"
)

// scribbleNames writes into a list, over its whole room.
func scribbleNames(l []string) {
	l = l[:cap(l)]
	for i := range l {
		l[i] = "?"
	}
}

// scribbleGroups writes into groups, over their whole room.
func scribbleGroups(l [][]string) {
	l = l[:cap(l)]
	for i, g := range l {
		scribbleNames(g)
		l[i] = []string{"?"}
	}
}

// roomy are nodes as they are, that have others behind their lists' lengths.
func roomy(l []calls.Node) []calls.Node {
	with := make([]calls.Node, 0, len(l)+2)
	for _, x := range l {
		x.Calls = append(slices.Clip(x.Calls), "1", "behind")[:len(x.Calls)]
		with = append(with, x)
	}
	return append(with, calls.Node{Name: "behind", Calls: []string{"1"}}, calls.Node{Name: "1"})[:len(l)]
}

// tellRoom writes nodes, and what stands behind their lists' lengths.
func tellRoom(l []calls.Node) string {
	l = slices.Clone(l[:cap(l)])
	for i := range l {
		l[i].Calls = l[i].Calls[:cap(l[i].Calls)]
	}
	return tellNodes(l)
}

// TestStays: no call changes what it is given, or reads what stands behind a list's length: Rule 4.
func TestStays(t *testing.T) {
	n := numbers(2)
	for many := range 400 {
		l := roomy(n.net(many%12, 3))
		was := tellRoom(l)
		asked := []string{"7", "1", "5", "1", "3", "2"}
		for i := range asked {
			holdNet(t, l, asked[:i])
		}
		if now := tellRoom(l); now != was || !slices.Equal(asked, []string{"7", "1", "5", "1", "3", "2"}) {
			t.Fatalf("%s became %s; %q", was, now, asked)
		}
	}
}

// TestApart writes into what was answered, and into what was given: each answer stays as it was, and is answered again.
func TestApart(t *testing.T) {
	n := numbers(5)
	for many := range 300 {
		again := n
		l, same := roomy(n.net(many%12, 3)), again.net(many%12, 3)
		asked := []string{"1", "2", "3"}
		groups, users := calls.Groups(l...), calls.Users(l, asked...)
		wantGroups, wantUsers := tellGroups(groups), tellNames(users)
		scribbleGroups(calls.Groups(l...))
		scribbleNames(calls.Users(l, asked...))
		if tellGroups(calls.Groups(l...)) != wantGroups || tellNames(calls.Users(l, asked...)) != wantUsers {
			t.Fatalf("%s: another answer", tellNodes(l))
		}
		for i := range l {
			scribbleNames(l[i].Calls)
			l[i] = calls.Node{Name: "?"}
		}
		scribbleNames(asked)
		if tellGroups(groups) != wantGroups || tellNames(users) != wantUsers {
			t.Fatalf("%s: Groups became%s, Users%s", tellNodes(same), tellGroups(groups), tellNames(users))
		}
		for i := range groups {
			told := calls.Groups(same...)
			grown := append(told[i], "?") // writes behind the length, where there is room
			scribbleNames(grown)
			told[i] = groups[i]
			if tellGroups(told) != wantGroups {
				t.Fatalf("%s: group %d shares its memory", tellNodes(same), i)
			}
		}
	}
}

// chain is as many nodes, each of which calls the next one, and the last one whom it is told.
func chain(many int, last ...string) []calls.Node {
	var l []calls.Node
	for i := range many - 1 {
		l = append(l, calls.Node{Name: strconv.Itoa(i), Calls: []string{strconv.Itoa(i + 1)}})
	}
	return append(l, calls.Node{Name: strconv.Itoa(many - 1), Calls: last})
}

// TestGreatNets: no limit is asked for here; long chains and rounds, on a stack as short as this, and nodes that many call: P1.
func TestGreatNets(t *testing.T) {
	const many = 1 << 17
	last := strconv.Itoa(many - 1)
	defer debug.SetMaxStack(debug.SetMaxStack(1 << 20))
	l := chain(many)
	groups := calls.Groups(l...)
	if len(groups) != many || groups[0][0] != last || groups[many-1][0] != "0" {
		t.Errorf("%d groups", len(groups))
	}
	holdAhead(t, l, groups)
	if u := calls.Users(l, last, "5"); len(u) != many || !slices.IsSorted(u) || calls.Round(l, "0") || calls.Round(l, last) {
		t.Errorf("%d users", len(u))
	}
	if u := calls.Users(l, "3", "7"); !slices.Equal(u, []string{"0", "1", "2", "3", "4", "5", "6", "7"}) {
		t.Errorf("%q", u)
	}
	l = chain(many, "1")
	groups = calls.Groups(l...)
	if len(groups) != 2 || len(groups[0]) != many-1 || !slices.IsSorted(groups[0]) || groups[1][0] != "0" || calls.Round(l, "0") || !calls.Round(l, last) {
		t.Errorf("%d groups", len(groups))
	}
	holdAhead(t, l, groups)
	if u := calls.Users(l, "9"); len(u) != many {
		t.Errorf("%d users", len(u))
	}
	slices.Reverse(l)
	if again := calls.Groups(l...); tellGroups(again) != tellGroups(groups) {
		t.Errorf("%d groups", len(again))
	}
}

// TestManyCalls has nodes with many calls: each of them is gone through, but not once for every other one.
func TestManyCalls(t *testing.T) {
	const many = 1 << 17
	var star []calls.Node
	var leaves []string
	for i := range many {
		name := strconv.Itoa(i)
		leaves = append(leaves, name)
		star = append(star, calls.Node{Name: name, Calls: []string{"hub"}})
	}
	star = append(star, calls.Node{Name: "hub"})
	groups := calls.Groups(star...)
	if len(groups) != many+1 || groups[0][0] != "hub" || groups[1][0] != "0" || groups[2][0] != "1" || groups[3][0] != "10" {
		t.Errorf("%d groups", len(groups))
	}
	star[many].Calls = leaves
	if groups := calls.Groups(star...); len(groups) != 1 || len(groups[0]) != many+1 || !calls.Round(star, "7") {
		t.Errorf("%d groups", len(groups))
	}
	if u := calls.Users(star, leaves...); len(u) != many+1 {
		t.Errorf("%d users", len(u))
	}
	one := []calls.Node{{Name: "a", Calls: slices.Repeat([]string{"b", "a", "x"}, many)}, {Name: "b"}}
	if got := groupsText(calls.Groups(one...)); got != "b | a" || !calls.Round(one, "a") || calls.Round(one, "b") {
		t.Error(got)
	}
	twice := slices.Repeat([]calls.Node{{Name: "a"}, {Name: "a", Calls: []string{"a"}}}, many)
	if got := groupsText(calls.Groups(twice...)); got != "a" || calls.Round(twice, "a") {
		t.Error(got)
	}
	var dense []calls.Node
	for i := range 1000 {
		dense = append(dense, calls.Node{Name: strconv.Itoa(i), Calls: leaves[i+1 : 1000]})
	}
	if groups := calls.Groups(dense...); len(groups) != 1000 || groups[0][0] != "999" || groups[999][0] != "0" {
		t.Errorf("%d groups", len(groups))
	}
	long := strings.Repeat("a", many)
	l := []calls.Node{{Name: long, Calls: []string{long[1:]}}, {Name: long[1:]}, {Name: long + "\x00"}}
	if groups := calls.Groups(l...); len(groups) != 3 || groups[0][0] != long[1:] || groups[1][0] != long {
		t.Errorf("%d groups", len(groups))
	}
}

// TestAnswersHangOnArguments asks in turn, and side by side: P1 and P2.
func TestAnswersHangOnArguments(t *testing.T) {
	n := numbers(5)
	w := &writer{numbers: 9}
	var nets [][]calls.Node
	for range 30 {
		nets = append(nets, roomy(n.net(12, 3)))
	}
	p := decl(t, w.function())
	called := modelOf(p)
	var group sync.WaitGroup
	for range 4 {
		group.Go(func() {
			for _, l := range nets {
				holdNet(t, l)
				scribbleGroups(calls.Groups(l...))
				scribbleNames(calls.Users(l, "1", "2"))
				if got := calls.Of(p); !slices.Equal(got, called) {
					t.Errorf("Of:%s", tellNames(got))
				}
			}
			for _, l := range slices.Backward(nets) {
				holdNet(t, l)
			}
		})
	}
	group.Wait()
}
