package parse_test

import (
	"math"
	"reflect"
	"slices"
	"strings"
	"testing"

	"bolthole/api"
	"bolthole/parse"
)

// nest is how texts are nested: what stands ahead, and behind, so many times, and what stands in the midst; and how deep the part is nested without any.
type nest struct {
	first, ahead, midst, behind, last string
	deep                              int
}

// text is one, nested so many times.
func (x nest) text(many int) string {
	return x.first + strings.Repeat(x.ahead, many) + x.midst + strings.Repeat(x.behind, many) + x.last
}

// nests have one part more with each time.
var nests = []nest{
	{"var x ", "*", "T", "", "", 2},
	{"var x ", "[]", "T", "", "\n", 2},
	{"type T struct { a int; b ", "*", "T", "", " }", 3},
	{"func f(a int, b ", "[]", "T", "", ", c int) { }", 4},
	{"func f() ", "*", "T", "", " { }", 3},
	{"func f() { var x ", "*", "T", "", " }", 4},
	{"func f() { new(", "[]", "T", "", ") }", 5},
	{"func f() { make(", "*", "T", "", ", 1) }", 5},
	{"func f() { return; ", "{ ", "{}", "}", "; return }", 3},
	{"func f() { ", "if a {} else ", "{}", "", " }", 3},
	{"func f() { ", "{ return\n", "return a - b", "\nreturn }", " }", 5},
	{"func f() { ", "-", "a", "", " }", 4},
	{"func f() { ", "& ", "a", "", " }", 4},
	{"func f() { b + ", "!", "a", "", " + c }", 6},
	{"func f() { a", " - b", "", "", " }", 4},
	{"func f() { return a", " || b", "", "", " }", 4},
	{"func f() { x = ", "a + (", "b", ")", " }", 4},
	{"func f() { if a", " * b", "", "", " { } }", 4},
	{"func f() { for a", ".b", "", "", " { } }", 4},
	{"func f() { a", "[0]", "", "", " := b }", 4},
	{"func f() { ", "a[", "b", "]", " }", 4},
	{"func f() { ", "f(1, ", "b", ", 2)", " }", 4},
	{"func f() { ", "make(T, ", "b", ")", " }", 4},
	{"func f() { ", "(-", "a", ")", " }", 4},
	{"func f() { ", "((", "a", ").b)", " }", 4},
}

// TestNested has each nested less than as deep as may be, just so deep, and deeper.
func TestNested(t *testing.T) {
	for _, x := range nests {
		for many := range 2 * api.MaxNest {
			s := x.text(many)
			p, at, e := parse.Decl(s)
			deep := x.deep + many
			if deep > api.MaxNest {
				if e != api.ErrDeep || at != 0 || !reflect.DeepEqual(p, api.Part{}) {
					t.Errorf("Decl(%q): %s, %d, %v", s, told(p), at, e)
				}
				continue
			}
			if e != api.OK || at != 0 || parse.Deep(p) != deep || modelDeep(p) != deep {
				t.Errorf("Decl(%q): %s, %d, %v; nested %d, not %d", s, told(p), at, e, parse.Deep(p), deep)
			}
			within(t, s, p)
		}
	}
}

// TestTwoNested has one too deep beside one that is not, in both orders.
func TestTwoNested(t *testing.T) {
	most := strings.Repeat("-", api.MaxNest-4)
	for s, want := range map[string]api.Errno{
		most + "a; a": api.OK, "a; " + most + "a": api.OK, most + "a; " + most + "a": api.OK,
		most + "-a; a": api.ErrDeep, "a; " + most + "-a": api.ErrDeep, most + "-a; " + most + "a": api.ErrDeep, most + "a; " + most + "-a": api.ErrDeep,
	} {
		if _, _, e := parse.Decl("func f() { " + s + " }"); e != want {
			t.Errorf("%s: %v, not %v", s, e, want)
		}
	}
}

// TestDeepAndWrong has what is no declaration, however deep it is nested.
func TestDeepAndWrong(t *testing.T) {
	for _, x := range nests {
		for _, many := range []int{30, 38, 39, 40, 41, 50, 1000} {
			s := x.text(many)
			fails(t, s+" )", len(s)+1)
			fails(t, s+"; y", len(s)+2)
			whole := strings.TrimRight(s, " \n")
			if strings.HasPrefix(s, "func") {
				fails(t, whole[:len(whole)-1], len(whole)-1)
			}
			begun := x.first + strings.Repeat(x.ahead, many)
			fails(t, begun+" @", len(begun)+1)
			fails(t, strings.Replace(s, " ", " @ ", 1), strings.Index(s, " ")+1)
		}
	}
}

// TestBracketsAreNoParts has many of them, one within the other.
func TestBracketsAreNoParts(t *testing.T) {
	for _, many := range []int{1, 39, 40, 41, 1000} {
		a := strings.Repeat("(", many) + "a" + strings.Repeat(")", many)
		holdExpr(t, a, "id:a")
		holdExpr(t, a+" + -"+a, "binary:+(id:a, unary:-(id:a))")
		holdExpr(t, "f("+a+".b["+a+"])", "call:f(index(field:b(id:a), id:a))")
	}
	// Semis, too, are none.
	hold(t, "type T struct {"+strings.Repeat(";", 1000)+"}"+strings.Repeat("\n;", 1000), "type:T")
}

// TestGreatTexts: no limit is asked for here; what is nested beyond all measure is answered, too.
func TestGreatTexts(t *testing.T) {
	const many = 1 << 15
	for _, x := range nests {
		s := x.text(many)
		if p, at, e := parse.Decl(s); e != api.ErrDeep || at != 0 || !reflect.DeepEqual(p, api.Part{}) {
			t.Errorf("%.40q: %d, %v", s, at, e)
		}
		begun := x.first + strings.Repeat(x.ahead, many)
		if _, at, e := parse.Decl(begun + "@"); e != api.ErrSyntax || at != len(begun) {
			t.Errorf("%.40q: %d, %v", begun, at, e)
		}
	}
	a := strings.Repeat("(", 1<<20) + "a" + strings.Repeat(")", 1<<20)
	if p, _, e := parse.Decl("func f() { " + a + " }"); told(p) != "func:f(params, result, block(expr(id:a)))" || e != api.OK {
		t.Errorf("brackets: %s, %v", told(p), e)
	}
	wide := part(t, "func f("+strings.Repeat("a T, ", many)+"b T) { f("+strings.Repeat("a, ", many)+"b);"+strings.Repeat("return\n", many)+"}")
	if params, call := wide.Kids[0], wide.Kids[2].Kids[0].Kids[0]; len(params.Kids) != many+1 || len(call.Kids) != many+1 || len(wide.Kids[2].Kids) != many+1 {
		t.Errorf("%d, %d, %d", len(params.Kids), len(call.Kids), len(wide.Kids[2].Kids))
	}
	if all := parse.All(wide); len(all) != 4*many+9 {
		t.Errorf("%d", len(all))
	}
}

// oddParts are such as no text has, with something behind their lists' lengths, and some that one has.
func oddParts() []api.Part {
	junk := api.Part{Kind: "junk", Text: "junk", From: 7, To: 8, Kids: []api.Part{{Kind: "junk"}}}
	some := []api.Part{
		{}, {Kids: []api.Part{}}, {Kind: "x", Text: "\xff"}, {From: 3}, {To: 3}, {From: -3, To: 3}, {From: 9, To: 2}, {From: math.MaxInt, To: math.MinInt},
		{Kids: []api.Part{{}, {}, {}}}, {From: 0, To: 0, Kids: []api.Part{{From: 1, To: 2}, {From: 0, To: 5}, {}}},
		{Kind: "var", Kids: []api.Part{{Kind: "type", Kids: []api.Part{{Kind: "func"}}}, {Kind: "name", Text: "a", From: 5, To: 4}}},
	}
	n := numbers(12)
	for range 200 {
		p := api.Part{Kind: n.one("", "x", "func", "id", "params"), Text: n.one("", "a", "b"), From: n.below(5) - 2, To: n.below(5) - 2}
		for range n.below(4) {
			p.Kids = append(p.Kids, some[n.below(len(some))])
		}
		p.Kids = append(p.Kids, junk)[:len(p.Kids)]
		some = append(some, p)
	}
	for _, s := range someTexts {
		p, _, _ := parse.Decl(s)
		some = append(some, p)
	}
	return some
}

// copied is a part whose lists are its own.
func copied(p api.Part) api.Part {
	var kids []api.Part
	for _, k := range p.Kids {
		kids = append(kids, copied(k))
	}
	p.Kids = kids
	return p
}

// modelShift is a part, moved.
func modelShift(p api.Part, by int) api.Part {
	kids := []api.Part{}
	for _, k := range p.Kids {
		kids = append(kids, modelShift(k, by))
	}
	if p.From == 0 && p.To == 0 {
		return api.Part{Kind: p.Kind, Text: p.Text, Kids: kids}
	}
	return api.Part{Kind: p.Kind, Text: p.Text, From: p.From + by, To: p.To + by, Kids: kids}
}

// modelAll puts a part, and all that it has, behind a list.
func modelAll(l []api.Part, p api.Part) []api.Part {
	l = append(l, p)
	for _, k := range p.Kids {
		l = modelAll(l, k)
	}
	return l
}

// TestOddParts asks Deep, Shift and All of parts of all sorts, which stay as they were.
func TestOddParts(t *testing.T) {
	l := oddParts()
	was, behind := copied(api.Part{Kids: l}), lists(l...)
	for i, b := range behind {
		behind[i] = slices.Clone(b)
	}
	for _, p := range l {
		if got, want := parse.Deep(p), modelDeep(p); got != want {
			t.Errorf("Deep(%s): %d, not %d", placed(p), got, want)
		}
		for _, by := range []int{0, 1, -1, 2, -2, 1000, -1000, math.MaxInt, math.MinInt} {
			got := parse.Shift(p, by)
			if want := modelShift(p, by); !same(got, want) {
				t.Errorf("Shift(%s, %d): %s, not %s", placed(p), by, placed(got), placed(want))
			}
			if !same(parse.Shift(p, by), got) {
				t.Errorf("Shift(%s, %d): not so again", placed(p), by)
			}
		}
		if got, want := parse.All(p), modelAll(nil, p); !slices.EqualFunc(got, want, same) {
			t.Errorf("All(%s): %d, not %d", placed(p), len(got), len(want))
		}
		// Odd parts share Kids with one another, copies none.
		own := copied(p)
		all := parse.All(own)
		apart(t, slices.Concat(lists(own, parse.Shift(own, 0), parse.Shift(own, 3)), lists(all...), [][]api.Part{all[:cap(all)]})...)
	}
	if !same(api.Part{Kids: l}, was) || !slices.EqualFunc(lists(l...), behind, func(a, b []api.Part) bool { return slices.EqualFunc(a, b, same) }) {
		t.Errorf("parts that were handed in are others")
	}
}

func TestDeepShiftAll(t *testing.T) {
	leaf := api.Part{Kind: "id", Text: "a", From: 0, To: 1}
	two := api.Part{Kind: "call", Text: "f", From: 2, To: 9, Kids: []api.Part{leaf, {Kind: "index", From: 5, To: 8, Kids: []api.Part{leaf}}, {Kind: "params"}}}
	if a, b, c := parse.Deep(api.Part{}), parse.Deep(leaf), parse.Deep(two); a != 1 || b != 1 || c != 3 {
		t.Errorf("Deep: %d, %d, %d", a, b, c)
	}
	for by, want := range map[int]string{
		0:  "call:f 2 9(id:a 0 1, index 5 8(id:a 0 1), params 0 0)",
		4:  "call:f 6 13(id:a 4 5, index 9 12(id:a 4 5), params 0 0)",
		-2: "call:f 0 7(id:a -2 -1, index 3 6(id:a -2 -1), params 0 0)",
		-9: "call:f -7 0(id:a -9 -8, index -4 -1(id:a -9 -8), params 0 0)",
	} {
		if got := placed(parse.Shift(two, by)); got != want {
			t.Errorf("Shift by %d: %s, not %s", by, got, want)
		}
	}
	var l []string
	for _, p := range parse.All(two) {
		l = append(l, placed(p))
	}
	want := []string{placed(two), "id:a 0 1", "index 5 8(id:a 0 1)", "id:a 0 1", "params 0 0"}
	if !slices.Equal(l, want) {
		t.Errorf("All: %v, not %v", l, want)
	}
	wraps := api.Part{From: math.MaxInt - 1, To: math.MaxInt}
	if got := parse.Shift(wraps, 1); got.From != math.MaxInt || got.To != math.MinInt {
		t.Errorf("Shift: %d, %d", got.From, got.To)
	}
}

// TestDeepParts has parts nested as deep as anything is promised of.
func TestDeepParts(t *testing.T) {
	p := api.Part{Kind: "name"}
	for deep := range 1<<16 - 1 {
		p = api.Part{Kind: "star", From: 1, To: deep, Kids: []api.Part{p}}
	}
	if got := parse.Deep(p); got != 1<<16 {
		t.Errorf("Deep: %d", got)
	}
	moved := parse.Shift(p, 1)
	if parse.Deep(moved) != 1<<16 || moved.From != 2 || moved.Kids[0].To != 1<<16-2 {
		t.Errorf("Shift: %d, from %d to %d", parse.Deep(moved), moved.From, moved.Kids[0].To)
	}
	for range 1<<16 - 1000 {
		p = p.Kids[0]
	}
	all := parse.All(p)
	if len(all) != 1000 || all[999].Kind != "name" || parse.Deep(all[1]) != 999 {
		t.Errorf("All: %d", len(all))
	}
}
