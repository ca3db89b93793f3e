package calls_test

import (
	"slices"
	"strings"
	"testing"

	"bolthole/api"
	"bolthole/calls"
	"bolthole/parse"
)

// decl is a declaration's part.
func decl(t *testing.T, s string) api.Part {
	t.Helper()
	p, at, e := parse.Decl(s)
	if e != api.OK {
		t.Fatalf("%s: %d, %v", s, at, e)
	}
	return p
}

// part is one made by hand.
func part(kind, text string, kids ...api.Part) api.Part {
	return api.Part{Kind: kind, Text: text, Kids: kids}
}

// holdOf holds what a part calls, told with blanks between, and against the model.
func holdOf(t *testing.T, p api.Part, want string) {
	t.Helper()
	got := calls.Of(p)
	if !slices.Equal(got, strings.Fields(want)) || !slices.Equal(got, modelOf(p)) {
		t.Errorf("%v: Of:%s, not %s (or%s)", p, tellNames(got), want, tellNames(modelOf(p)))
	}
}

// TestOfStatements: P15.1, G1: Of, in a function's whole part, and in its block alone.
func TestOfStatements(t *testing.T) {
	for body, want := range map[string]string{
		"":                                "",
		"f":                               "",
		"f; g.h; a[b]; -c; d = e; x := y": "",
		"f()":                             "f",
		"f(1)":                            "f",
		"f(g)":                            "f",
		"f(g())":                          "f g",
		"g(f())":                          "f g",
		"f(f(f()))":                       "f",
		"f(); f(); f()":                   "f",
		"c(b(a()))":                       "a b c",
		"c(); a(); b(); a(); c()":         "a b c",
		"f(1, g(2), h(i(), j(3, 4)))":     "f g h i j",
		"var x T; x = f()":                "f",
		"f() = 1":                         "f",
		"x := f()":                        "f",
		"f().a = g()[h()]":                "f g h",
		"return":                          "",
		"return f()":                      "f",
		"return (f())":                    "f",
		"return -f()":                     "f",
		"return a + f() * g()":            "f g",
		"return !(*f(&g().x) == nil)":     "f g",
		"return x[f()].y[g()]":            "f g",
		"if f() { }":                      "f",
		"if a { f() }":                    "f",
		"if a { } else { f() }":           "f",
		"if a { } else if f() { g() }":    "f g",
		"if c() { b() } else if a() { } else { b(); d() }": "a b c d",
		"for f() { }":               "f",
		"for a { f() }":             "f",
		"{ { { f() }; g() }; h() }": "f g h",
		"for a() { if b() { { for c() { d() } } } }": "a b c d",
		"new(T)":              "",
		"make([]T, 1)":        "",
		"make([]T, f())":      "f",
		"x := new(f); new(g)": "",
		"new(T); newer(); make([]int, 3); maker()": "maker newer",
		"F(); f(); _(); f1(); f10(); f2(); ff()":   "F _ f f1 f10 f2 ff",
		"\"f()\"":                                  "",
		"// f()\n":                                 "",
		"f() // g()\n":                             "f",
	} {
		f := decl(t, "func f(a int, g *T) []h { "+body+" }")
		holdOf(t, f, want)
		holdOf(t, f.Kids[2], want)
		holdOf(t, parse.Shift(f, 1000), want)
		holdOf(t, f.Kids[0], "")
		holdOf(t, f.Kids[1], "")
		var all []string
		for _, k := range f.Kids[2].Kids {
			all = append(all, calls.Of(k)...)
		}
		slices.Sort(all)
		if !slices.Equal(slices.Compact(all), calls.Of(f)) {
			t.Errorf("%s: its statements call%s", body, tellNames(all))
		}
	}
}

// TestOfOthers: P15.1, G1: Of, of what is no function.
func TestOfOthers(t *testing.T) {
	holdOf(t, decl(t, "var f []T"), "")
	holdOf(t, decl(t, "type f struct { g *h }"), "")
	holdOf(t, decl(t, "func f() { }"), "")
	holdOf(t, decl(t, "func f() { g() }").Kids[2].Kids[0], "g")
	call := decl(t, "func f() { g(h(1), i) }").Kids[2].Kids[0].Kids[0]
	if call.Kind != "call" {
		t.Fatal(call)
	}
	holdOf(t, call, "g h")
	holdOf(t, call.Kids[0], "h")
	holdOf(t, call.Kids[1], "")
}

// TestOfByHand: P15.1, G1: Of, of parts that no text has.
func TestOfByHand(t *testing.T) {
	for _, x := range []struct {
		p    api.Part
		want []string
	}{
		{api.Part{}, nil},
		{part("", "f"), nil},
		{part("Call", "f"), nil},
		{part("call ", "f"), nil},
		{part("calls", "f"), nil},
		{part("id", "call"), nil},
		{part("call", "f"), []string{"f"}},
		{part("call", ""), []string{""}},
		{part("call", "", part("call", "")), []string{""}},
		{part("call", "b", part("call", ""), part("call", "a")), []string{"", "a", "b"}},
		{part("num", "1", part("call", "f")), []string{"f"}},
		{part("str", "", part("id", "x", part("name", "y", part("call", "f", part("num", "1"))))), []string{"f"}},
		{part("name", "", part("call", "b"), part("", "", part("call", "a"))), []string{"a", "b"}},
		{part("params", "", part("call", "p"), part("param", "q", part("call", "r"))), []string{"p", "r"}},
		{part("new", "", part("call", "f")), []string{"f"}},
		{part("call", "new", part("call", "make")), []string{"make", "new"}},
		{part("call", "a b", part("call", "\xff"), part("call", "\x80"), part("call", "a"), part("call", "\u05d0"), part("call", "\x00")), []string{"\x00", "a", "a b", "\x80", "\u05d0", "\xff"}},
		{api.Part{Kind: "call", Text: "f", From: 9, To: -9, Kids: []api.Part{{Kind: "call", Text: "e", From: -1}}}, []string{"e", "f"}},
	} {
		if got := calls.Of(x.p); !slices.Equal(got, x.want) || !slices.Equal(got, modelOf(x.p)) {
			t.Errorf("%v: Of:%s, not%s", x.p, tellNames(got), tellNames(x.want))
		}
	}
}

// nodes are some, by a text: of each its name, a mark :, whom it calls; a mark ; between.
func nodes(s string) []calls.Node {
	var l []calls.Node
	for part := range strings.SplitSeq(s, ";") {
		name, called, ok := strings.Cut(part, ":")
		if ok {
			l = append(l, calls.Node{Name: strings.TrimSpace(name), Calls: strings.Fields(called)})
		}
	}
	return l
}

// groupsText writes groups, with blanks between names and | between groups.
func groupsText(l [][]string) string {
	var all []string
	for _, g := range l {
		all = append(all, strings.Join(g, " "))
	}
	return strings.Join(all, " | ")
}

// TestGroups: P15.1, G1, and P15.2: Groups.
func TestGroups(t *testing.T) {
	for _, x := range [][2]string{
		// Few nodes.
		{"", ""},
		{"a:", "a"},
		{"a: a", "a"},
		{"a: a a a", "a"},
		{"a: b", "a"},
		{"a: b c", "a"},
		// Nodes that call nobody: by name alone.
		{"c:; a:; b:", "a | b | c"},
		{"c: c; a: a; b: b", "a | b | c"},
		{"c: x; a: y; b: z", "a | b | c"},
		// Chains: what is called ahead.
		{"a: b; b:", "b | a"},
		{"a:; b: a", "a | b"},
		{"a: b; b: c; c: d; d:", "d | c | b | a"},
		{"d: c; c: b; b: a; a:", "a | b | c | d"},
		{"b: d; d: a; a: c; c:", "c | a | d | b"},
		{"a: b b b; b: c c; c:", "c | b | a"},
		{"a: x b y; b: x; c: x", "b | a | c"},
		{"a: b x; x: y", "x | a"},
		{"a: x b; b: y", "b | a"},
		// One that several call.
		{"a: d; b: d; c: d; d:", "d | a | b | c"},
		{"a:; b: a; c: a; d: a", "a | b | c | d"},
		{"a: b c; b: d; c: d; d:", "d | b | c | a"},
		{"d: b c; b: a; c: a; a:", "a | b | c | d"},
		// Two of one name.
		{"a:; a: b; b: a", "a | b"},
		{"a: b; a:; b:", "b | a"},
		{"a: b; b:; b: a", "b | a"},
		{"b:; b: c; c: b; a: b; a: c", "b | a | c"},
		{"a: a; a:; a: b", "a"},
		{"y:; y: a; a: b; b:", "b | a | y"},
		// Rounds.
		{"a: b; b: a", "a b"},
		{"b: a; a: b", "a b"},
		{"c: a; a: b; b: c", "a b c"},
		{"a: b c d; b: a; c: a; d: a", "a b c d"},
		{"d: c; c: b; b: a; a: d", "a b c d"},
		{"a: b; b: a; c: d; d: c", "a b | c d"},
		{"a: c; c: a; b: d; d: b", "a c | b d"},
		{"a: d; d: a; b: c; c: b", "a d | b c"},
		{"a: b a b; b: b a a", "a b"},
		{"a: b; b: a c; c: d; d: c", "c d | a b"},
		{"a: b; b: a; c: d a; d: c", "a b | c d"},
		{"a: b; b: a c; c: e; e: c d; d:", "d | c e | a b"},
		{"a: b; b: c; c: b; d: a", "b c | a | d"},
		{"a: b c; b: c a; c: d; d: c b e; e: e", "e | a b c d"},
		{"m: z q; a: b; b: c m; c: a; z: z; y:; y: a", "y | z | m | a b c"},
		// Of those that could come next, the least first name.
		{"a: z; b:; z:", "b | z | a"},
		{"a: m; b: z; m:; z:", "m | a | z | b"},
		{"c: m; a: m; m:; b: c", "m | a | c | b"},
		{"a: y; b:; c:; y:; z: c", "b | c | y | a | z"},
		{"a: b; b: c; c: z; d:; z:", "d | z | c | b | a"},
		{"a: d; d:; b: e; e:; c:", "c | d | a | e | b"},
		{"z: a; a: z y; y:; b: y", "y | a z | b"},
		{"z: b; b: z; a: x; x:; c: x", "b z | x | a | c"},
		{"z: b; b: z; c: d; d: c; y:", "b z | c d | y"},
		{"d: z; z: d m; b: m; m:; c:", "c | m | b | d z"},
		{"a: m; e: z m; z: b; b: e; c: m; f: m; m:", "m | a | b e z | c | f"},
		{"m: p; p: m; a: m; b: p; n:", "m p | a | b | n"},
		{"b: c; c: b; a: c; d: b; e: a d", "b c | a | d | e"},
	} {
		l := nodes(x[0])
		got := calls.Groups(l...)
		if groupsText(got) != x[1] {
			t.Errorf("%s: %s, not %s", x[0], groupsText(got), x[1])
		}
		for _, g := range got {
			if !slices.IsSorted(g) {
				t.Errorf("%s: %v doesn't rise", x[0], g)
			}
		}
		holdAhead(t, l, got)
		holdNet(t, l)
	}
	if len(calls.Groups()) != 0 || len(calls.Groups([]calls.Node{}...)) != 0 {
		t.Error("groups of nothing")
	}
}

// TestOddNames: P15.1, G1: names are any bytes, and rise byte by byte.
func TestOddNames(t *testing.T) {
	rising := []string{"", "\x00", "\n", " ", "A", "B", "_", "a", "a\x00", "a ", "a b", "aa", "ab", "b", "\x7f", "\x80", "\xc2\x80", "\u05d0", "\uffff", "\U0001f600", "\xff", "\xff\x00", "\xff\xff"}
	if !slices.IsSorted(rising) {
		t.Fatal("they don't rise")
	}
	var falling, chain, ring, all []calls.Node
	for i, name := range slices.Backward(rising) {
		falling = append(falling, calls.Node{Name: name})
		next := rising[(i+1)%len(rising)]
		ring = append(ring, calls.Node{Name: name, Calls: []string{next}})
		chain = append(chain, calls.Node{Name: name, Calls: []string{next}})
		all = append(all, calls.Node{Name: name, Calls: rising})
	}
	chain[0].Calls = []string{"\xfe", "nowhere"}
	var each, back [][]string
	for _, name := range rising {
		each = append(each, []string{name})
		back = slices.Insert(back, 0, []string{name})
	}
	for _, x := range []struct {
		l    []calls.Node
		want [][]string
	}{{falling, each}, {chain, back}, {ring, [][]string{rising}}, {all, [][]string{rising}}} {
		if got := calls.Groups(x.l...); tellGroups(got) != tellGroups(x.want) {
			t.Errorf("%s: %s, not %s", tellNodes(x.l), tellGroups(got), tellGroups(x.want))
		}
		holdNet(t, x.l)
	}
	if got := calls.Users(falling, rising...); !slices.Equal(got, rising) {
		t.Errorf("Users:%s", tellNames(got))
	}
	// The empty name is one like any other.
	l := []calls.Node{{Name: "a", Calls: []string{""}}, {}, {Calls: []string{"a"}}}
	if got := groupsText(calls.Groups(l...)); got != " | a" || calls.Round(l, "") || !slices.Equal(calls.Users(l, ""), []string{"", "a"}) {
		t.Errorf("%q", got)
	}
	l = l[:1]
	if got := calls.Groups(l...); groupsText(got) != "a" || len(calls.Users(l, "")) != 0 || calls.Round(l, "") {
		t.Errorf("%q", got)
	}
	l = []calls.Node{{Calls: []string{""}}}
	if got := calls.Groups(l...); tellGroups(got) != `( "" )` || !calls.Round(l, "") {
		t.Errorf("%q", got)
	}
}

// TestUsers: P15.1, G1: Users.
func TestUsers(t *testing.T) {
	const tree = "a: b c; b: d; c: d e; d:; e: x; f: g; g: f; h: h; b: h"
	const rounds = "a: b; b: c; c: b d; d: e; e: d; f: a; g: e; h:"
	for _, x := range [][3]string{
		{"", "", ""},
		{"", "a", ""},
		{"a:", "", ""},
		{"a:", "a", "a"},
		{"a:", "b", ""},
		{"a: b", "b", ""},
		{"a: a", "a", "a"},
		{tree, "", ""},
		{tree, "a", "a"},
		{tree, "b", "a b"},
		{tree, "c", "a c"},
		{tree, "d", "a b c d"},
		{tree, "e", "a c e"},
		{tree, "x", ""},
		{tree, "x y", ""},
		{tree, "x e y", "a c e"},
		{tree, "f", "f g"},
		{tree, "g", "f g"},
		{tree, "h", "h"},
		{tree, "h b", "a b h"},
		{tree, "e b", "a b c e"},
		{tree, "a a a", "a"},
		{tree, "d a d", "a b c d"},
		{tree, "h g f e d c b a", "a b c d e f g h"},
		{tree, "a b c d e f g h", "a b c d e f g h"},
		{tree, "g d h", "a b c d f g h"},
		{rounds, "a", "a f"},
		{rounds, "b", "a b c f"},
		{rounds, "c", "a b c f"},
		{rounds, "d", "a b c d e f g"},
		{rounds, "e", "a b c d e f g"},
		{rounds, "f", "f"},
		{rounds, "g", "g"},
		{rounds, "h", "h"},
		{rounds, "f h g", "f g h"},
		{rounds, "g b", "a b c f g"},
		{"a:; a: b; b:", "b", "b"},
		{"a: b; a:; b:", "b", "a b"},
		{"a: b; b:; b: c; c:", "c", "c"},
		{"z: y; y: x; x: w; w:", "w", "w x y z"},
	} {
		l, asked := nodes(x[0]), strings.Fields(x[1])
		got := calls.Users(l, asked...)
		if strings.Join(got, " ") != x[2] {
			t.Errorf("%s: Users of %s: %v, not %s", x[0], x[1], got, x[2])
		}
		// Those of the answer are the same.
		if again := calls.Users(l, got...); !slices.Equal(again, got) {
			t.Errorf("%s: Users of %v: %v", x[0], got, again)
		}
		holdNet(t, l, asked, got)
	}
}

// TestRound: P15.1, G1: Round.
func TestRound(t *testing.T) {
	for _, x := range [][2]string{
		{"", ""},
		{"a:", ""},
		{"a: a", "a"},
		{"a: b a", "a"},
		{"a: b", ""},
		{"a: b; b:", ""},
		{"a: b; b: a", "a b"},
		{"a: b; b: b", "b"},
		{"a: b; b: c; c: b; d: a", "b c"},
		{"a: b; b: c; c: a; d: d; e: d; f: e", "a b c d"},
		{"a: b; b: c; c: d; d: e; e: a", "a b c d e"},
		{"a: b; b: c; c: d; d: e; e: c", "c d e"},
		{"a: b c; b: d; c: d; d:", ""},
		{"a: b c; b: d; c: d; d: c", "c d"},
		{"a:; a: a", ""},
		{"a: a; a:", "a"},
		{"a: b; b:; b: a", ""},
		{"a: b; b: a; b:; a:", "a b"},
		{"a: a; b: a; c: b", "a"},
		{"a: b; b: c x; c: d x; d: y", ""},
	} {
		l, in := nodes(x[0]), strings.Fields(x[1])
		for _, name := range []string{"a", "b", "c", "d", "e", "f", "x", "y", "", "aa"} {
			if got := calls.Round(l, name); got != slices.Contains(in, name) {
				t.Errorf("%s: Round of %s: %t", x[0], name, got)
			}
		}
		holdNet(t, l)
	}
	if calls.Round(nil, "a") || calls.Round(nil, "") || calls.Round([]calls.Node{}, "a") {
		t.Error("of no nodes one reaches itself")
	}
}
