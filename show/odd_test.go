package show_test

import (
	"math"
	"slices"
	"strings"
	"sync"
	"testing"

	"bolthole/api"
	"bolthole/show"
)

// numbers come in an order without a rule that a reader could see, but each time the same one.
type numbers uint32

// below is the next one, below a limit.
func (n *numbers) below(limit int) int {
	*n = *n*1664525 + 1013904223
	return int(*n>>8) % limit
}

// one is one of a list.
func (n *numbers) one(l ...string) string { return l[n.below(len(l))] }

// oddTexts are Texts, some of them not right, or such as no word has.
var oddTexts = []string{"", "a", "b", "T", "&", "-", "*", "1", "\"s\"", "\xff", "a\x80", "\n", "\t", " ", "(", ")", "{}", ":", "\u05d0", "\xed\xa0\x80", "\x00", "if", "//"}

// odd is a part of any kind, with any Text and any Kids, nested so deep at most; something stands behind its lists' lengths.
func (n *numbers) odd(deep int) api.Part {
	p := api.Part{Kind: n.one(allKinds...), Text: n.one(oddTexts...), From: n.below(9) - 4, To: n.below(9) - 4}
	switch n.below(9) {
	case 0:
		p.Kind = n.one("", "x", "params", "result", "\xff", "Block")
	case 1, 2:
		p.Kind, p.Text = "binary", n.one(allMarks...)
	case 3:
		p.Kind, p.Text = "unary", n.one("&", "&", "-", "!", "*")
	case 4:
		p.Kind = n.one("block", "block", "type", "func")
	}
	if deep > 0 {
		for range n.below(5) {
			p.Kids = append(p.Kids, n.odd(deep-1))
		}
	}
	if p.Kind == "func" {
		// Whether a block, or a type, that stands in the place of params stands about what it has, though none of it is told, the chapter doesn't say.
		for i := range p.Kids[:min(2, len(p.Kids))] {
			p.Kids[i].Kind = n.one("params", "result", "x", "call", "return")
		}
	}
	p.Kids = append(p.Kids, mk("id", "behind", id("behind")))[:len(p.Kids)]
	return p
}

// copied is a part whose lists are its own, and what stands behind their lengths.
func copied(p api.Part) api.Part {
	long := slices.Clone(p.Kids[:cap(p.Kids)])
	for i, k := range long {
		long[i] = copied(k)
	}
	p.Kids = long[:len(p.Kids)]
	return p
}

// same tells whether two parts are one, with their places, and what stands behind their lists' lengths, as far as both have it.
func same(a, b api.Part) bool {
	if a.Kind != b.Kind || a.Text != b.Text || a.From != b.From || a.To != b.To || len(a.Kids) != len(b.Kids) {
		return false
	}
	both := min(cap(a.Kids), cap(b.Kids))
	return slices.EqualFunc(a.Kids[:both], b.Kids[:both], same)
}

// TestOddParts asks of parts of all sorts, which stay as they were.
func TestOddParts(t *testing.T) {
	n := numbers(11)
	var last api.Part
	alike := 0
	for many := range 20000 {
		p := n.odd(many % 5)
		was := copied(p)
		holdModel(t, p)
		if got, want := show.Shape(p), modelShape(p); got != want {
			t.Errorf("Shape(%s): %q, not %q", told(p), got, want)
		}
		if got := show.Alike(p, last); got != (told(p) == told(last)) || got != show.Alike(last, p) {
			t.Errorf("Alike(%s, %s): %v", told(p), told(last), got)
		} else if got {
			alike++
		}
		if !show.Alike(p, was) || !show.Alike(p, p) {
			t.Errorf("%s is not alike itself", told(p))
		}
		if !same(p, was) {
			t.Fatalf("%s became %s", told(was), told(p))
		}
		last = p
	}
	if alike == 0 || alike > 10000 {
		t.Errorf("%d were alike", alike)
	}
}

func TestNothing(t *testing.T) {
	hold(t, api.Part{}, "")
	hold(t, api.Part{Kids: []api.Part{}}, "")
	hold(t, api.Part{Kind: "block", Kids: []api.Part{}}, "{}")
	hold(t, api.Part{Kind: "return", Kids: []api.Part{}}, "return")
	hold(t, mk("if", ""), "if  ")
	if s := show.Shape(api.Part{Kids: []api.Part{}}); s != ":()" {
		t.Errorf("%q", s)
	}
	if !show.Alike(api.Part{}, api.Part{Kids: []api.Part{}}) || !show.Alike(api.Part{Kids: []api.Part{}}, api.Part{}) {
		t.Error("two without Kids are not alike")
	}
}

// TestPlaces: where parts stand is not told.
func TestPlaces(t *testing.T) {
	ends := []int{math.MinInt, -1, 0, 1, 1 << 20, math.MaxInt}
	p := mk("func", "f", mk("params", "", mk("param", "a", typ("T"))), mk("result", ""), mk("block", "", id("a")))
	text, shape := show.Show(p), show.Shape(p)
	for _, from := range ends {
		for _, to := range ends {
			q := copied(p)
			q.From, q.Kids[0].From, q.Kids[2].Kids[0].From = from, from, from
			q.To, q.Kids[0].To, q.Kids[0].Kids[0].Kids[0].To = to, to, to
			if show.Show(q) != text || show.Shape(q) != shape || !show.Alike(p, q) || !show.Alike(q, p) {
				t.Errorf("from %d to %d: %q, %q", from, to, show.Show(q), show.Shape(q))
			}
		}
	}
}

// TestTextsThatAreNotRight has Texts that are written as they are.
func TestTextsThatAreNotRight(t *testing.T) {
	a := id("a")
	for _, s := range []string{"\xff", "\x80\x80", "\xed\xa0\x80", "a\xc0", "\xf0\x9f", "\n", "\x00", "\t\n\t", "\r", "//", "\"", "\u2028", "\ufffd", "%s", "\\n", "$1"} {
		hold(t, id(s), s)
		hold(t, mk("str", s), s)
		hold(t, mk("func", s), "func "+s+"() ")
		hold(t, mk("var", s, typ(s)), "var "+s+" "+s)
		hold(t, mk("type", s, mk("field", s, typ(s))), "type "+s+" struct {\n\t"+s+" "+s+"\n}")
		hold(t, unary(s, a), s+"a")
		hold(t, binary(id(s), s, id(s)), s+" "+s+" "+s)
		hold(t, mk("call", s, id(s)), s+"("+s+")")
		hold(t, mk("field", s, id(s)), s+"."+s)
		hold(t, mk("block", s, id(s), mk("block", "", id(s))), "{\n\t"+s+"\n\t{\n\t\t"+s+"\n\t}\n}")
		hold(t, mk(s, s, a), "")
		if got := show.Shape(mk(s, s, id(s))); got != s+":"+s+"(id:"+s+"())" {
			t.Errorf("%q", got)
		}
		if show.Alike(id(s), id(s+s)) || show.Alike(id(s), mk(s, s)) || show.Alike(id(s), id("\ufffe")) || !show.Alike(mk(s, s), mk(s, strings.Clone(s))) {
			t.Errorf("Alike of %q", s)
		}
	}
}

// TestNestedDeep has parts of one kind, one in the other: as many as the bound says; blocks fewer, whose texts grow faster.
func TestNestedDeep(t *testing.T) {
	const deep = 1<<16 - 1
	a := id("a")
	for _, x := range []struct {
		deep          int
		about         func(p api.Part) api.Part
		ahead, behind string // of what each one has
	}{
		{deep, func(p api.Part) api.Part { return mk("star", "", p) }, "*", ""},
		{deep, func(p api.Part) api.Part { return mk("slice", "", p) }, "[]", ""},
		{deep, func(p api.Part) api.Part { return mk("expr", "", p) }, "", ""},
		{deep, func(p api.Part) api.Part { return mk("return", "", p) }, "return ", ""},
		{deep, func(p api.Part) api.Part { return mk("var", "x", p) }, "var x ", ""},
		{deep, func(p api.Part) api.Part { return mk("param", "x", p) }, "x ", ""},
		{deep, func(p api.Part) api.Part { return mk("for", "", a, p) }, "for a ", ""},
		{deep, func(p api.Part) api.Part { return mk("if", "", a, a, p) }, "if a a else ", ""},
		{deep, func(p api.Part) api.Part { return mk("assign", "", p, a) }, "", " = a"},
		{deep, func(p api.Part) api.Part { return mk("define", "", a, p) }, "a := ", ""},
		{deep, func(p api.Part) api.Part { return unary("-", p) }, "-", ""},
		{deep, func(p api.Part) api.Part { return unary("&", p) }, "&(", ")"},
		{deep, func(p api.Part) api.Part { return binary(p, "-", a) }, "", " - a"},
		{deep, func(p api.Part) api.Part { return binary(a, "-", p) }, "a - (", ")"},
		{deep, func(p api.Part) api.Part { return mk("call", "f", a, p, a) }, "f(a, ", ", a)"},
		{deep, func(p api.Part) api.Part { return mk("field", "x", p) }, "", ".x"},
		{deep, func(p api.Part) api.Part { return mk("index", "", p, a) }, "", "[a]"},
		{deep, func(p api.Part) api.Part { return mk("index", "", a, p) }, "a[", "]"},
		{deep, func(p api.Part) api.Part { return mk("new", "", p) }, "new(", ")"},
		{deep, func(p api.Part) api.Part { return mk("make", "", a, p) }, "make(a, ", ")"},
		{deep, func(p api.Part) api.Part { return mk("type", "T", p) }, "type T struct {\n\t", "\n}"},
		{deep / 3, func(p api.Part) api.Part { return mk("type", "T", mk("field", "x", mk("field", "y", p))) }, "type T struct {\n\tx ", ".y\n}"},
		{deep / 2, func(p api.Part) api.Part { return mk("func", "f", mk("params", "", p), mk("result", "", a), a) }, "func f(", ") a a"},
		{deep / 2, func(p api.Part) api.Part { return mk("type", "T", mk("block", "", p)) }, "type T struct {\n\t{\n\t\t", "\n\t}\n}"},
	} {
		p, q, other := a, id("a"), id("b")
		for range x.deep {
			p, q, other = x.about(p), x.about(q), x.about(other)
		}
		want := strings.Repeat(x.ahead, x.deep-1) + modelShow(x.about(a)) + strings.Repeat(x.behind, x.deep-1)
		if got := show.Show(p); got != want {
			t.Errorf("%s: %.80q .., %d bytes, not %.80q .., %d", p.Kind, got, len(got), want, len(want))
		}
		if !show.Alike(p, q) || show.Alike(p, other) || show.Alike(other, p) || show.Alike(p, p.Kids[0]) {
			t.Errorf("%s: Alike", p.Kind)
		}
	}
}

// TestShapesDeep has as many kinds as the table has, and others, one in the other.
func TestShapesDeep(t *testing.T) {
	const deep = 1<<16 - 1
	for _, kind := range append(slices.Clone(allKinds), "params", "x", "") {
		p := api.Part{}
		for range deep {
			p = mk(kind, "t", p)
		}
		want := strings.Repeat(kind+":t(", deep) + ":()" + strings.Repeat(")", deep)
		if got := show.Shape(p); got != want {
			t.Errorf("%s: %.80q .., %d bytes", kind, got, len(got))
		}
	}
}

// TestBlocksDeep has many blocks, one in the other, with something ahead and behind in each.
func TestBlocksDeep(t *testing.T) {
	const deep = 2000
	p := mk("block", "")
	var ahead, behind []string
	for i := range deep {
		p = mk("block", "", id("a"), p, id("b"))
		in, out := "\n"+strings.Repeat("\t", i+1), "\n"+strings.Repeat("\t", i)
		ahead = append(ahead, "{"+in+"a"+in)
		behind = append(behind, in+"b"+out+"}")
	}
	slices.Reverse(behind)
	want := strings.Join(ahead, "") + "{}" + strings.Join(behind, "")
	if got := show.Show(p); got != want {
		t.Errorf("%d bytes, not %d", len(got), len(want))
	}
}

// TestWide has many Kids.
func TestWide(t *testing.T) {
	const many = 1 << 16
	kids := slices.Repeat([]api.Part{id("a")}, many)
	for _, x := range []struct{ kind, want string }{
		{"call", "f(" + strings.Repeat("a, ", many-1) + "a)"},
		{"make", "make(" + strings.Repeat("a, ", many-1) + "a)"},
		{"block", "{" + strings.Repeat("\n\ta", many) + "\n}"},
		{"type", "type f struct {" + strings.Repeat("\n\ta", many) + "\n}"},
		{"unary", "fa"},
	} {
		if got := show.Show(mk(x.kind, "f", kids...)); got != x.want {
			t.Errorf("%s: %.80q .., %d bytes", x.kind, got, len(got))
		}
		if got := show.Shape(mk(x.kind, "f", kids...)); got != x.kind+":f("+strings.Repeat("id:a()", many)+")" {
			t.Errorf("%s: %.80q .., %d bytes", x.kind, got, len(got))
		}
	}
}

// TestAlike holds each of many parts against each other one.
func TestAlike(t *testing.T) {
	a, b := id("a"), id("b")
	call := func(l ...api.Part) api.Part { return mk("call", "f", l...) }
	l := []api.Part{
		{}, {Kids: []api.Part{}}, {Kids: []api.Part{{}}}, {Kids: []api.Part{{}, {}}}, {Kind: "x"}, {Text: "x"},
		a, b, mk("name", "a"), mk("id", "a", api.Part{}), id("A"), id("a "), id(""), mk("ID", "a"),
		{Kind: "id", Text: "a", From: 3, To: 4}, {Kind: "id", Text: "a", From: -1}, {Kind: "id", Text: "b", To: 1},
		call(), call(a), call(b), call(a, b), call(b, a), call(a, a), call(a, b, a), call(mk("name", "a"), b), call(a, mk("name", "b")), mk("call", "g", a, b), mk("new", "f", a, b),
		call(call(a), b), call(call(a, b)), call(a, call(b)), call(call(), a, b), call(call(call(a))), call(call(call(b))), call(call(call())),
		{Kind: "call", Text: "f", From: 1, To: 9, Kids: []api.Part{{Kind: "id", Text: "a", From: 3, To: 4}, b}},
		// The shapes' texts of these are the same.
		mk("a:b", "c"), mk("a", "b:c"), mk("a:b:c", ""), mk("", "a:b:c"), mk("a:b:", ""), mk("a:b", ""),
		mk("x", "", mk("a", ""), mk("b", "")), mk("x", "", mk("a", "()b:")), mk("x", "", mk("a:()b", "")), mk("x", "", mk("a", ""), mk("b", "")),
		mk("x", "(", mk("a", "")), mk("x", "", mk("", "", mk("a", ""))), mk("x:()", ""),
	}
	alike := 0
	for i, p := range l {
		for j, q := range l {
			want := told(p) == told(q)
			if got := show.Alike(p, q); got != want || i == j && !got {
				t.Errorf("Alike(%s, %s): %v", told(p), told(q), got)
			}
			if want && i != j {
				alike++
			}
		}
	}
	if alike != 14 {
		t.Errorf("%d are alike", alike)
	}
	// One changed behind a list's length is as it was.
	p := call(a, b)
	long := append(slices.Clone(p.Kids), a)
	if !show.Alike(p, api.Part{Kind: "call", Text: "f", Kids: long[:2]}) || show.Alike(p, api.Part{Kind: "call", Text: "f", Kids: long}) {
		t.Error("Alike of lists with more room")
	}
}

// TestAnswersHangOnArguments asks in turn, and side by side: P1 and P2.
func TestAnswersHangOnArguments(t *testing.T) {
	n := numbers(12)
	var l []api.Part
	for range 300 {
		l = append(l, n.odd(4))
	}
	var texts, shapes []string
	for _, p := range l {
		texts, shapes = append(texts, show.Show(p)), append(shapes, show.Shape(p))
	}
	var group sync.WaitGroup
	for range 4 {
		group.Go(func() {
			for i, p := range slices.Backward(l) {
				if s := show.Show(p); s != texts[i] {
					t.Errorf("Show(%s): %q, then %q", told(p), texts[i], s)
				}
				if s := show.Shape(p); s != shapes[i] {
					t.Errorf("Shape(%s): %q, then %q", told(p), shapes[i], s)
				}
				if q := l[(i+1)%len(l)]; show.Alike(p, q) != (told(p) == told(q)) {
					t.Errorf("Alike(%s, %s)", told(p), told(q))
				}
			}
		})
	}
	group.Wait()
	// A text of blocks, and one that ends within none, ahead of one that stands in none.
	block := mk("block", "", mk("block", "", id("a")))
	for _, ahead := range []api.Part{block, mk("type", "T", block), {}, mk("x", "", block)} {
		show.Show(ahead)
		hold(t, block, "{\n\t{\n\t\ta\n\t}\n}")
		hold(t, id("a"), "a")
	}
}
