package check_test

import (
	"math"
	"slices"
	"strconv"
	"strings"
	"sync"
	"testing"

	"bolthole/api"
	"bolthole/check"
	"bolthole/parse"
	"bolthole/scope"
	"bolthole/unit"
)

// part is one made by hand.
func part(kind, text string, kids ...api.Part) api.Part {
	return api.Part{Kind: kind, Text: text, Kids: kids}
}

// id is a name's part.
func id(name string) api.Part { return part("id", name) }

// function is one's part, of statements.
func function(statements ...api.Part) api.Part {
	return part("func", "f", part("params", ""), part("result", ""), part("block", "", statements...))
}

// allKinds are all that parts have.
var allKinds = []string{"func", "params", "param", "result", "block", "var", "type", "field", "name", "star", "slice", "return", "if", "for", "assign", "define", "expr", "num", "str", "id", "unary", "binary", "call", "field", "index", "new", "make"}

// tellPart writes a part with all that it has, and what stands behind its lists' lengths.
func tellPart(b *strings.Builder, p api.Part) {
	b.WriteString(strconv.Quote(p.Kind) + strconv.Quote(p.Text) + strconv.Itoa(p.From) + "-" + strconv.Itoa(p.To) + "," + strconv.Itoa(len(p.Kids)) + "(")
	for _, k := range p.Kids[:cap(p.Kids)] {
		tellPart(b, k)
	}
	b.WriteString(")")
}

// tell writes parts.
func tell(l ...api.Part) string {
	var b strings.Builder
	for _, p := range l {
		tellPart(&b, p)
	}
	return b.String()
}

// behind is a part that has others behind its lists' lengths.
func behind(p api.Part) api.Part {
	kids := make([]api.Part, 0, len(p.Kids)+2)
	for _, k := range p.Kids {
		kids = append(kids, behind(k))
	}
	p.Kids = append(kids, part("var", "behind", part("name", "int")), id("behind"))[:len(p.Kids)]
	return p
}

// odd is a part of any kind, with any Text and any Kids, nested so deep at most.
func (n *numbers) odd(deep int) api.Part {
	p := api.Part{Kind: n.one(allKinds...), Text: n.one("", "a", "b", "T", "f0", "f1", "f2", "gi", "gp", "int", "nil", "true", "&", "-", "!", "*", "+", "==", "&&", "k", "n", "void", "\xff"), From: n.below(9) - 4, To: n.below(9) - 4}
	switch n.below(12) {
	case 0:
		p.Kind = n.one("", "x", "\xff", "Block")
	case 1, 2, 3:
		p.Kind = n.one("block", "if", "for", "define", "var")
	}
	if deep > 0 {
		for range n.below(4) {
			p.Kids = append(p.Kids, n.odd(deep-1))
		}
	}
	return p
}

// oddScope is one of declarations made by hand.
func (n *numbers) oddScope() *scope.Scope {
	var l []unit.Decl
	for range 20 {
		p := n.odd(4)
		p.Kind, p.Text = n.one("func", "var", "type", "type", ""), n.one("a", "b", "T", "f0", "f1", "f2", "gi", "gp", "", "k", "n", "void", "\xff")
		l = append(l, unit.Decl{Part: p})
	}
	return scope.New(scope.File{Decls: l})
}

// TestOddParts asks of parts made by hand: each is answered, twice alike, and stays as it was: P1 and P2.
func TestOddParts(t *testing.T) {
	n := numbers(5)
	vars := []check.Var{{Name: "a", Type: "int"}, {Name: "", Type: ""}, {Name: "b", Type: "*T", Loop: -1}, {Name: "\xff", Type: "\xff"}, {Name: "b", Type: "[]"}, {Name: "k", Type: "*"}}
	declared, faults, typed := 0, 0, 0
	for many := range 12000 {
		s := []*scope.Scope{nil, scopeOf(world), n.oddScope()}[many%3]
		p := behind(n.odd(many % 7))
		if many%2 == 0 {
			p.Kind = "func"
		}
		was := tell(p)
		l, m := check.Func(s, p)
		again, same := check.Func(s, p)
		if tellVars(l) != tellVars(again) || tellFaults(m) != tellFaults(same) || p.Kind != "func" && len(l)+len(m) > 0 {
			t.Errorf("%s:\n%s%s%s%s", was, tellVars(l), tellFaults(m), tellVars(again), tellFaults(same))
		}
		for _, e := range parse.All(p) {
			typ, ok := check.Types(s, vars, e)
			if other, is := check.Types(s, vars, e); typ != other || ok != is || !ok && typ != "" {
				t.Errorf("%s: %q, %t, then %q, %t", was, typ, ok, other, is)
			} else if ok {
				typed++
			}
		}
		declared, faults = declared+len(l), faults+len(m)
		if tell(p) != was {
			t.Fatalf("%s became %s", was, tell(p))
		}
	}
	if declared < 500 || faults < 500 || typed < 500 {
		t.Errorf("%d variables, %d faults, %d types", declared, faults, typed)
	}
}

// TestFewerKids takes Kids from what is right: it has no type, or is a fault, and nothing panics.
func TestFewerKids(t *testing.T) {
	s := scopeOf(world)
	for _, text := range []string{"-1", "!true", "*gp", "&gp", "1 + 2", "1 == 2", "gp == nil", "true && true", "f1(1)", "f2(gp, nil)", "gp.k", "gl[0]", "new(T)", "make([]T, 1)"} {
		e := expr(t, text)
		if _, ok := check.Types(s, nil, e); !ok {
			t.Errorf("%s has no type", text)
		}
		for many := range len(e.Kids) {
			p := e
			p.Kids = e.Kids[:many]
			if typ, ok := check.Types(s, nil, p); ok || typ != "" {
				t.Errorf("%s of %d has the type %s", text, many, typ)
			}
		}
	}
	for _, text := range []string{"var x int", "x := 1", "gi = 1", "f0()", "if true { }", "for true { }"} {
		p := decl(t, "func f() { "+text+" }").Kids[2].Kids[0]
		if vars, faults := check.Func(s, function(p)); len(faults) != 0 {
			t.Errorf("%s: %v, %v", text, vars, faults)
		}
		p.Kids = nil
		if vars, faults := check.Func(s, function(p)); len(vars) != 0 || len(faults) != 1 || faults[0].Kind != p.Kind {
			t.Errorf("%s: %v, %v", p.Kind, vars, faults)
		}
	}
	f := decl(t, "func f(a int) T { var x int }")
	for many, want := range []string{"", "a int from 7, 0\n", "a int from 7, 0\n", "a int from 7, 0\nx int from 18, 0\n"} {
		f.Kids = f.Kids[:0:3]
		f.Kids = f.Kids[:many]
		if vars, faults := check.Func(s, f); tellVars(vars) != want || len(faults) != 0 {
			t.Errorf("of %d: %v, %v", many, vars, faults)
		}
	}
	vars, faults := check.Func(s, part("func", "f", part("params", "", part("param", "a"), part("param", "a")), part("result", "", api.Part{}), part("block", "", api.Part{}, part("x", ""), id("y"))))
	if len(vars) != 1 || len(faults) != 3 || faults[2].Kind != "result" {
		t.Errorf("%v, %v", vars, faults)
	}
}

// TestMissingType: what is not there is no type, though one without a name was declared by hand.
func TestMissingType(t *testing.T) {
	s := scope.New(scope.File{Decls: []unit.Decl{{Part: part("type", "", part("field", "k", part("name", "int")))}}})
	if !s.Type("") {
		t.Fatal("the type is not there")
	}
	for _, e := range []api.Part{part("new", ""), part("make", ""), part("field", "k"), part("unary", "&"), part("unary", "*"), part("index", "")} {
		if typ, ok := check.Types(s, nil, e); ok || typ != "" {
			t.Errorf("%s: %q, %t", e.Kind, typ, ok)
		}
	}
	vars, faults := check.Func(s, function(part("var", "x"), part("define", "", id("y")), part("assign", "", id("y"))))
	if len(vars) != 0 || len(faults) != 3 {
		t.Errorf("%v, %v", vars, faults)
	}
}

// TestStays asks by lists that stay as they were, over their whole room: Rule 4.
func TestStays(t *testing.T) {
	n := numbers(8)
	s := scopeOf(world)
	var entries []api.Part
	for _, e := range s.All() {
		entries = append(entries, e.Part)
	}
	known := tell(entries...)
	for range 100 {
		text := n.function()
		f := behind(decl(t, text))
		was := tell(f)
		vars, faults := check.Func(s, f)
		want, wantFaults := check.Func(s, decl(t, text))
		if tellVars(vars) != tellVars(want) || tellFaults(faults) != tellFaults(wantFaults) || tell(f) != was {
			t.Errorf("%s: what stands behind lists' lengths is read, or written", text)
		}
		long := append(slices.Clip(want), check.Var{Name: "gi", Type: "bool"}, check.Var{Name: "behind", Type: "int"})
		short := long[:len(want)]
		wasVars := tellVars(long)
		for _, p := range parse.All(f) {
			typ, ok := check.Types(s, short, p)
			if other, is := check.Types(s, want, p); typ != other || ok != is {
				t.Errorf("%s: %q, %t, not %q, %t", tell(p), typ, ok, other, is)
			}
		}
		if tellVars(long) != wasVars {
			t.Errorf("%s became %s", wasVars, tellVars(long))
		}
		// What was told is nobody else's.
		for i := range vars[:cap(vars)] {
			vars[:cap(vars)][i] = check.Var{Name: "?"}
		}
		for i := range faults[:cap(faults)] {
			faults[:cap(faults)][i] = check.Fault{Kind: "?"}
		}
		if again, m := check.Func(s, f); tellVars(again) != tellVars(want) || tellFaults(m) != tellFaults(wantFaults) {
			t.Errorf("%s: what was told is kept", text)
		}
	}
	entries = nil
	for _, e := range s.All() {
		entries = append(entries, e.Part)
	}
	if tell(entries...) != known {
		t.Error("the scope is another one")
	}
}

// TestPlaces has parts that stand anywhere.
func TestPlaces(t *testing.T) {
	bad := api.Part{Kind: "expr", From: math.MinInt, To: math.MaxInt}
	v := part("var", "x", part("name", "int"))
	v.From = -7
	vars, faults := check.Func(nil, function(bad, v))
	if len(vars) != 1 || vars[0].From != -7 || len(faults) != 1 || faults[0] != (check.Fault{From: math.MinInt, To: math.MaxInt, Kind: "expr"}) {
		t.Errorf("%v, %v", vars, faults)
	}
}

// TestDeepParts has parts nested as deep as anything is promised of.
func TestDeepParts(t *testing.T) {
	const deep = 1<<16 - 8
	wrap := func(p api.Part, about func(api.Part) api.Part, many int) api.Part {
		for range many {
			p = about(p)
		}
		return p
	}
	vars := []check.Var{{Name: "a", Type: "int"}, {Name: "p", Type: strings.Repeat("*", deep) + "int"}}
	for _, row := range []struct {
		e    api.Part
		want string
	}{
		{wrap(id("a"), func(p api.Part) api.Part { return part("unary", "-", p) }, deep), "int"},
		{wrap(id("p"), func(p api.Part) api.Part { return part("unary", "*", p) }, deep), "int"},
		{wrap(id("a"), func(p api.Part) api.Part { return part("binary", "+", p, part("num", "1")) }, deep), "int"},
		{wrap(id("a"), func(p api.Part) api.Part { return part("call", "f1", p) }, deep), "int"},
		{wrap(id("gp"), func(p api.Part) api.Part { return part("field", "n", p) }, deep), "*T"},
		// Were types and places asked for by themselves, these would take as long as there are ways through them.
		{wrap(id("gp"), func(p api.Part) api.Part { return part("unary", "*", part("unary", "&", p)) }, deep/2), "*T"},
		{wrap(id("gt"), func(p api.Part) api.Part { return part("unary", "*", part("field", "n", part("unary", "&", p))) }, deep/3), "T"},
		{wrap(id("nowhere"), func(p api.Part) api.Part { return part("field", "n", part("unary", "&", p)) }, deep/2), none},
		{wrap(id("gt"), func(p api.Part) api.Part { return part("unary", "&", part("call", "f3", p)) }, deep/2), none},
	} {
		if got, ok := check.Types(scopeOf(world), vars, row.e); ok != (row.want != none) || ok && got != row.want {
			t.Errorf("%s: %q, %t", row.e.Kind, got, ok)
		}
		f := function(part("assign", "", id("gi"), row.e), part("expr", "", row.e))
		check.Func(scopeOf(world), f)
	}
	blocks := wrap(part("var", "x", part("name", "int")), func(p api.Part) api.Part { return part("block", "", p) }, deep)
	loops := wrap(part("var", "x", part("name", "int")), func(p api.Part) api.Part { return part("for", "", id("true"), part("block", "", p)) }, deep/2)
	ifs := wrap(part("block", "", part("var", "x", part("name", "int"))), func(p api.Part) api.Part { return part("if", "", id("true"), part("block", ""), p) }, deep)
	for i, p := range []api.Part{blocks, loops, ifs} {
		vars, faults := check.Func(nil, function(p, part("var", "y", part("name", "int"))))
		if len(vars) != 2 || vars[0].Loop != []int{0, deep / 2, 0}[i] || vars[1].Loop != 0 || len(faults) != 0 {
			t.Errorf("%d: %v, %d faults", i, vars, len(faults))
		}
	}
}

// TestGreatFunctions: no limit is asked for here: many params, variables, statements, calls, and long names.
func TestGreatFunctions(t *testing.T) {
	const many = 1 << 14
	s := scopeOf(world)
	long := strings.Repeat("a", many)
	vars, faults := hold(t, s, "func f("+long+" []int) { "+long+"["+long+"["+long+"[1]]] = "+long+"[2] }")
	if len(vars) != 1 || vars[0].Name != long || len(faults) != 0 {
		t.Errorf("%d, %d", len(vars), len(faults))
	}
	var params, lines strings.Builder
	for i := range many {
		params.WriteString(strings.Repeat(", ", min(i, 1)) + "p" + strconv.Itoa(i) + " int")
		lines.WriteString("x" + strconv.Itoa(i) + " := p" + strconv.Itoa(many-i-1) + "\nx0 = 1; if x0 == 1 { x0 := p0 < x" + strconv.Itoa(i) + "; x0 = true }\n")
	}
	vars, faults = check.Func(s, decl(t, "func f("+params.String()+") {\n"+lines.String()+"}"))
	if len(vars) != 3*many || len(faults) != 0 {
		t.Errorf("%d, %d", len(vars), len(faults))
	}
	// The function itself is called as often as it is long: it isn't looked up each time.
	text := "func f(p *int) *int {\n" + strings.Repeat("f(f(nil))\n", many/2) + "return nil\n}\n"
	if vars, faults := check.Func(scopeOf(text), decl(t, text)); len(vars) != 1 || len(faults) != 0 {
		t.Errorf("%d, %d", len(vars), len(faults))
	}
}

// TestAnswersHangOnArguments asks of functions in turn, and side by side: P1 and P2.
func TestAnswersHangOnArguments(t *testing.T) {
	n := numbers(6)
	scopes := []*scope.Scope{nil, scopeOf(world), scopeOf("type T struct {\n\tk bool\n\tn []T\n}\nvar gi bool\nvar gp **T\nfunc f1(a bool) bool {\n}\nfunc f0() int {\n}\n")}
	var texts []string
	for range 40 {
		texts = append(texts, n.function())
	}
	var group sync.WaitGroup
	for range 4 {
		group.Go(func() {
			for _, s := range scopes {
				for _, text := range texts {
					hold(t, s, text)
				}
			}
			for _, text := range texts {
				for _, s := range slices.Backward(scopes) {
					hold(t, s, text)
				}
			}
		})
	}
	group.Wait()
}
