package check_test

import (
	"strings"
	"testing"

	"bolthole/api"
	"bolthole/check"
	"bolthole/parse"
	"bolthole/scope"
)

// world is what the tables' files declare.
const world = `type T struct {
	n *T
	k int
	s string
	l []int
	t U
}
type U struct {
	v int
	w Nowhere
}
type void struct {
	v int
}
var gi int
var gb bool
var gs string
var gt T
var gp *T
var gl []*T
var gn nil
var gv void
var gw Nowhere
var here string
func f0() {
}
func f1(a int) int {
}
func f2(p *T, l []int) *T {
}
func f3(t T) T {
}
func fl() []int {
}
func fn() nil {
}
func fv() void {
}
func fw(a Nowhere) Nowhere {
}
func fvv(v void) int {
}
`

// row is a function's text, and what is told of it: its variables, and the texts of the parts with faults, ahead of each that one's kind.
type row struct {
	text, vars, faults string
}

// told tells a row's text in rows' words.
func told(t *testing.T, s *scope.Scope, text string) row {
	t.Helper()
	vars, faults := hold(t, s, text)
	var l []string
	for _, v := range vars {
		l = append(l, v.Name+" "+v.Type+strings.Repeat("'", v.Loop))
	}
	var m []string
	for _, f := range faults {
		m = append(m, f.Kind+": "+text[f.From:f.To])
	}
	return row{text, strings.Join(l, ", "), strings.Join(m, " | ")}
}

// holdRows holds rows against what is told, and against the model.
func holdRows(t *testing.T, ahead, behind string, rows ...row) {
	t.Helper()
	s := scopeOf(world)
	for _, r := range rows {
		r.text = ahead + r.text + behind
		if got := told(t, s, r.text); got != r {
			t.Errorf("%s:\n%s\n%s\nnot\n%s\n%s", r.text, got.vars, got.faults, r.vars, r.faults)
		}
	}
}

// TestNoFunction: P14.1, H1: of other parts nothing.
func TestNoFunction(t *testing.T) {
	s := scopeOf(world)
	f := decl(t, "func f(a Nowhere) Nowhere { x = 1; var y int }")
	for _, kind := range []string{"", "var", "type", "block", "Func", "params", "call", "\xff"} {
		f.Kind = kind
		if vars, faults := check.Func(s, f); len(vars) != 0 || len(faults) != 0 {
			t.Errorf("%q: %v, %v", kind, vars, faults)
		}
	}
	for _, p := range []api.Part{{}, decl(t, "var x Nowhere"), decl(t, "type A struct { a Nowhere; a int }"), f.Kids[2], f.Kids[2].Kids[1]} {
		if vars, faults := check.Func(s, p); len(vars) != 0 || len(faults) != 0 {
			t.Errorf("%s: %v, %v", p.Kind, vars, faults)
		}
	}
}

// TestParams: P14.1, H1: params, and their faults.
func TestParams(t *testing.T) {
	holdRows(t, "func f(", ") {}",
		row{"", "", ""},
		row{"a int", "a int", ""},
		row{"a []*T, b string, c *Nowhere", "a []*T, b string, c *Nowhere", "param: c *Nowhere"},
		row{"a int, b T, a int", "a int, b T", "param: a int"},
		row{"a int, a bool, a T", "a int", "param: a bool | param: a T"},
		row{"a Nowhere", "a Nowhere", "param: a Nowhere"},
		row{"a Nowhere, a int", "a Nowhere", "param: a Nowhere | param: a int"},
		row{"a int, a Nowhere, b int", "a int, b int", "param: a Nowhere"},
		row{"a gi, b f0, c nil", "a gi, b f0, c nil", "param: a gi | param: b f0 | param: c nil"},
		row{"nil T, true int, T T, gi string, f0 bool, f int", "nil T, true int, T T, gi string, f0 bool, f int", ""},
		row{"v void, w []void", "v void, w []void", ""},
	)
	// Each stands where its part does.
	vars, faults := check.Func(scopeOf(world), decl(t, "func f( a  int , bb [ ] V ){}"))
	if tellVars(vars) != "a int from 8, 0\nbb []V from 17, 0\n" || tellFaults(faults) != "param from 17 to 25\n" {
		t.Errorf("%s%s", tellVars(vars), tellFaults(faults))
	}
}

// TestResults: P14.1, H1: a result, its fault, and what may be returned.
func TestResults(t *testing.T) {
	holdRows(t, "func f(a Nowhere, t T, v void) ", "",
		row{"{ return }", "a Nowhere, t T, v void", "param: a Nowhere"},
		row{"{ return 1 }", "a Nowhere, t T, v void", "param: a Nowhere | return: return 1"},
		row{"{ return f0() }", "a Nowhere, t T, v void", "param: a Nowhere | return: return f0()"},
		row{"{ return nil }", "a Nowhere, t T, v void", "param: a Nowhere | return: return nil"},
		row{"int { return 1 }", "a Nowhere, t T, v void", "param: a Nowhere"},
		row{"int { }", "a Nowhere, t T, v void", "param: a Nowhere"},
		row{"int { return }", "a Nowhere, t T, v void", "param: a Nowhere | return: return"},
		row{"int { return true }", "a Nowhere, t T, v void", "param: a Nowhere | return: return true"},
		row{"int { return nowhere }", "a Nowhere, t T, v void", "param: a Nowhere | return: return nowhere"},
		row{"int { return nil }", "a Nowhere, t T, v void", "param: a Nowhere | return: return nil"},
		row{"*int { return nil; return &t.k; return t.k }", "a Nowhere, t T, v void", "param: a Nowhere | return: return t.k"},
		row{"[]int { return nil; return t.l; return &t.l }", "a Nowhere, t T, v void", "param: a Nowhere | return: return &t.l"},
		row{"Nowhere { return a; return; return t }", "a Nowhere, t T, v void", "param: a Nowhere | result: Nowhere | return: return | return: return t"},
		row{"[]*Nowhere { return nil; return a }", "a Nowhere, t T, v void", "param: a Nowhere | result: []*Nowhere | return: return a"},
		row{"f0 { return f0 }", "a Nowhere, t T, v void", "param: a Nowhere | result: f0 | return: return f0"},
		row{"nil { return nil; return 1; return gn; return fn(); return }", "a Nowhere, t T, v void", "param: a Nowhere | result: nil | return: return 1 | return: return"},
		row{"void { return; return v; return f0(); return nil; return 1 }", "a Nowhere, t T, v void", "param: a Nowhere | return: return v | return: return f0() | return: return nil | return: return 1"},
		row{"*void { return nil; return &v; return v; return }", "a Nowhere, t T, v void", "param: a Nowhere | return: return v | return: return"},
	)
	// No fault of `void` where no such type is there either.
	if vars, faults := check.Func(scopeOf(""), decl(t, "func f() void { return }")); len(vars) != 0 || len(faults) != 0 {
		t.Errorf("%v, %v", vars, faults)
	}
	_, faults := check.Func(nil, decl(t, "func f()  [ ] * V { return }"))
	if tellFaults(faults) != "result from 10 to 17\nreturn from 20 to 26\n" {
		t.Error(tellFaults(faults))
	}
}

// TestVars: P14.1, H1: `var`.
func TestVars(t *testing.T) {
	holdRows(t, "func f(a int) {\n", "\n}",
		row{"var x int", "a int, x int", ""},
		row{"var x []*T", "a int, x []*T", ""},
		row{"var x Nowhere", "a int", "var: var x Nowhere"},
		row{"var x []Nowhere", "a int", "var: var x []Nowhere"},
		row{"var x gi", "a int", "var: var x gi"},
		row{"var x nil", "a int", "var: var x nil"},
		row{"var x int; var x int", "a int, x int", "var: var x int"},
		row{"var x int; var x bool; x = 1", "a int, x int", "var: var x bool"},
		row{"x := 1; var x int", "a int, x int", "var: var x int"},
		row{"var a bool; a = true", "a int, a bool", ""},
		row{"var a bool; var a bool", "a int, a bool", "var: var a bool"},
		row{"var x int; { var x bool; x = true; { var x string; x = \"\" }; x = false }; x = 1", "a int, x int, x bool, x string", ""},
		row{"if true { var x bool } else { var x int; x = 1 }; var x string", "a int, x bool, x int, x string", ""},
		row{"var x Nowhere; var x int; x = 1", "a int, x int", "var: var x Nowhere"},
		row{"var x Nowhere; x = 1", "a int", "var: var x Nowhere | assign: x = 1"},
		row{"x = 1; var x int; x = 2", "a int, x int", "assign: x = 1"},
		row{"{ var x int; x = 1 }; x = 1", "a int, x int", "assign: x = 1"},
		row{"var gi bool; gi = true", "a int, gi bool", ""},
		row{"{ var gi bool; gi = true }; gi = 1", "a int, gi bool", ""},
		row{"var true int; true = 1; var nil T; nil.k = true; var f0 int; f0 = nil.k", "a int, true int, nil T, f0 int", ""},
		row{"var x void", "a int, x void", ""},
	)
}

// TestDefines: P14.1, H1: `define`.
func TestDefines(t *testing.T) {
	holdRows(t, "func f(a int, v void) {\n", "\n}",
		row{"x := 1", "a int, v void, x int", ""},
		row{"x := &gt; y := x.n; z := *y", "a int, v void, x *T, y *T, z T", ""},
		row{"a.b := 1", "a int, v void", "define: a.b := 1"},
		row{"*gp := gt", "a int, v void", "define: *gp := gt"},
		row{"gl[0] := gp", "a int, v void", "define: gl[0] := gp"},
		row{"1 := 1", "a int, v void", "define: 1 := 1"},
		row{"\"x\" := 1", "a int, v void", "define: \"x\" := 1"},
		row{"f0() := 1", "a int, v void", "define: f0() := 1"},
		row{"(x) := 1", "a int, v void, x int", ""},
		row{"x := 1; x := 1", "a int, v void, x int", "define: x := 1"},
		row{"x := 1; x := true; x = 2", "a int, v void, x int", "define: x := true"},
		row{"var x int; x := 1", "a int, v void, x int", "define: x := 1"},
		row{"a := true; a := true", "a int, v void, a bool", "define: a := true"},
		row{"x := nil", "a int, v void", "define: x := nil"},
		row{"x := gn", "a int, v void", "define: x := gn"},
		row{"x := fn()", "a int, v void", "define: x := fn()"},
		row{"x := f0()", "a int, v void", "define: x := f0()"},
		row{"x := fv()", "a int, v void", "define: x := fv()"},
		row{"x := v", "a int, v void", "define: x := v"},
		row{"x := gv", "a int, v void", "define: x := gv"},
		row{"x := gw", "a int, v void, x Nowhere", ""},
		row{"x := nowhere", "a int, v void", "define: x := nowhere"},
		row{"x := f0", "a int, v void", "define: x := f0"},
		row{"x := x", "a int, v void", "define: x := x"},
		row{"x := 1; { x := x < 2; x = true }; x = 1", "a int, v void, x int, x bool", ""},
		row{"x := nil; x := 1; x = 2", "a int, v void, x int", "define: x := nil"},
		row{"x := nil; x = 2", "a int, v void", "define: x := nil | assign: x = 2"},
		row{"x = 1; x := 1", "a int, v void, x int", "assign: x = 1"},
		row{"{ x := 1 }; x = 1", "a int, v void, x int", "assign: x = 1"},
		row{"nil := 1; true := \"\"; gi := true; f0 := nil; f0 = 2", "a int, v void, nil int, true string, gi string, f0 int", ""},
	)
}

// TestAssigns: P14.1, H1: `assign`, and places.
func TestAssigns(t *testing.T) {
	holdRows(t, "func f(t T, p *T, l []T) {\n", "\n}",
		row{"t = gt; t = *p; p = nil; p = &t; l = nil; gi = 1; gp = p", "t T, p *T, l []T", ""},
		row{"t.k = 1; t.n = nil; t.n.n.k = 2; t.t.v = 3; p.k = 4; p.t.v = 5; gt.k = 6; gp.k = 7", "t T, p *T, l []T", ""},
		row{"f2(p, nil).k = 1; new(T).k = 2; (&t).k = 3; f2(p, nil).t.v = 4", "t T, p *T, l []T", ""},
		row{"f3(t).k = 1; f3(t).n.k = 2; f3(t).t.v = 3; f3(t).l[0] = 4", "t T, p *T, l []T", "assign: f3(t).k = 1 | assign: f3(t).t.v = 3"},
		row{"l[0] = t; l[0].k = 1; fl()[1] = 2; make([]int, 3)[4] = 5; gl[0] = &t; gl[1].k = 1", "t T, p *T, l []T", ""},
		row{"*p = t; (*p).k = 1; *&t = *p; *f2(p, t.l) = t; *new(int) = 1", "t T, p *T, l []T", ""},
		row{"1 = 1", "t T, p *T, l []T", "assign: 1 = 1"},
		row{"\"\" = \"\"", "t T, p *T, l []T", "assign: \"\" = \"\""},
		row{"nil = nil; true = true", "t T, p *T, l []T", "assign: nil = nil | assign: true = true"},
		row{"&t = p; -gi = 1; !gb = true", "t T, p *T, l []T", "assign: &t = p | assign: -gi = 1 | assign: !gb = true"},
		row{"gi + 1 = 1", "t T, p *T, l []T", "assign: gi + 1 = 1"},
		row{"f1(1) = 1; f2(p, nil) = p", "t T, p *T, l []T", "assign: f1(1) = 1 | assign: f2(p, nil) = p"},
		row{"new(T) = p; make([]int, 1) = nil", "t T, p *T, l []T", "assign: new(T) = p | assign: make([]int, 1) = nil"},
		row{"f0 = 1; T = t; nowhere = 1", "t T, p *T, l []T", "assign: f0 = 1 | assign: T = t | assign: nowhere = 1"},
		row{"t = p; p = t; t = nil; gi = true; gi = nil; gs = 1; l = t.l; l[0] = p", "t T, p *T, l []T", "assign: t = p | assign: p = t | assign: t = nil | assign: gi = true | assign: gi = nil | assign: gs = 1 | assign: l = t.l | assign: l[0] = p"},
		row{"t.k = \"\"; t.z = 1; *p = p; l[true] = t; p[0] = t; *t = t", "t T, p *T, l []T", "assign: t.k = \"\" | assign: t.z = 1 | assign: *p = p | assign: l[true] = t | assign: p[0] = t | assign: *t = t"},
		row{"gi = nowhere; nowhere = nowhere; gi = f0(); gi = fv()", "t T, p *T, l []T", "assign: gi = nowhere | assign: nowhere = nowhere | assign: gi = f0() | assign: gi = fv()"},
		row{"gv = gv; gv = fv(); gv.v = 1; gn = nil; gn = gn; p = gn; gn = p; gw = gw", "t T, p *T, l []T", "assign: gv = gv | assign: gv = fv() | assign: gn = p"},
	)
}

// TestExprs: P14.1, H1: `expr`.
func TestExprs(t *testing.T) {
	holdRows(t, "func f(p *int, f1 int) {\n", "\n}",
		row{"f0(); f1(1); f1(f1(f1)); fv(); fn(); (f0())", "p *int, f1 int", ""},
		row{"f0(1); f1(); f1(1, 2); f1(true); f1(nowhere); nowhere(); gi(); p(); T()", "p *int, f1 int", "expr: f0(1) | expr: f1() | expr: f1(1, 2) | expr: f1(true) | expr: f1(nowhere) | expr: nowhere() | expr: gi() | expr: p() | expr: T()"},
		row{"1; \"\"; true; p; *p; -1; f1(1) + 2; gp.k; gl[0]; new(T); make([]int, 1)", "p *int, f1 int", "expr: 1 | expr: \"\" | expr: true | expr: p | expr: *p | expr: -1 | expr: f1(1) + 2 | expr: gp.k | expr: gl[0] | expr: new(T) | expr: make([]int, 1)"},
		row{"*f2(nil, nil); f2(nil, nil).n; fl()[0]", "p *int, f1 int", "expr: *f2(nil, nil) | expr: f2(nil, nil).n | expr: fl()[0]"},
	)
	// A statement's part has the brackets about its expression.
	if _, faults := check.Func(nil, decl(t, "func f() { ( 1 ) }")); tellFaults(faults) != "expr from 11 to 16\n" {
		t.Error(tellFaults(faults))
	}
}

// TestIfsAndFors: P14.1, H1: `if` and `for`, what stands within, and faults' order.
func TestIfsAndFors(t *testing.T) {
	holdRows(t, "func f(b bool) {\n", "\n}",
		row{"if b { }; if true && b { } else { }; if gi < 1 { } else if !b { } else { }", "b bool", ""},
		row{"for b { }; for gp != nil { }", "b bool", ""},
		row{"if 1 { }", "b bool", "if: if 1 { }"},
		row{"for 1 { }", "b bool", "for: for 1 { }"},
		row{"if nil { }; if \"\" { }; if f0() { }; if nowhere { }; if &b { }", "b bool", "if: if nil { } | if: if \"\" { } | if: if f0() { } | if: if nowhere { } | if: if &b { }"},
		row{"for nil { }; for gs { }; for f0() { }; for nowhere { }", "b bool", "for: for nil { } | for: for gs { } | for: for f0() { } | for: for nowhere { }"},
		row{"if 1 { 2; x := 3; x = true }", "b bool, x int", "if: if 1 { 2; x := 3; x = true } | expr: 2 | assign: x = true"},
		row{"for 1 { 2; x := 3; x = true }", "b bool, x int'", "for: for 1 { 2; x := 3; x = true } | expr: 2 | assign: x = true"},
		row{"if b { 1 } else { 2 }", "b bool", "expr: 1 | expr: 2"},
		row{"if 1 { 2 } else if 3 { 4 } else { 5 }", "b bool", "if: if 1 { 2 } else if 3 { 4 } else { 5 } | expr: 2 | if: if 3 { 4 } else { 5 } | expr: 4 | expr: 5"},
		row{"if b { x := 1 } else if x == 1 { x = 2 } else { x = 3 }", "b bool, x int", "if: if x == 1 { x = 2 } else { x = 3 } | assign: x = 2 | assign: x = 3"},
		row{"for b { x := 1 }; for x == 1 { }", "b bool, x int'", "for: for x == 1 { }"},
		row{"if b { b := 1; if b { } }; if b { }", "b bool, b int", "if: if b { }"},
		row{"{ 1; { 2 }; 3 }; 4", "b bool", "expr: 1 | expr: 2 | expr: 3 | expr: 4"},
		row{"{ }; { { } }", "b bool", ""},
	)
}

// TestLoops: P14.1: how many `for`s stand about a variable.
func TestLoops(t *testing.T) {
	holdRows(t, "func f(a int) ", "",
		row{"{ x := 1; var y int }", "a int, x int, y int", ""},
		row{"{ for true { x := 1; var y int }; z := 1 }", "a int, x int', y int', z int", ""},
		row{"{ for true { for true { x := 1 }; y := 1; for false { var z int } }; for true { v := 1 } }", "a int, x int'', y int', z int'', v int'", ""},
		row{"{ for true { if true { x := 1 } else if false { y := 1 } else { z := 1 } } }", "a int, x int', y int', z int'", ""},
		row{"{ if true { for true { x := 1 }; y := 1 } else { for true { { z := 1 } } } }", "a int, x int', y int, z int'", ""},
		row{"{ { for true { { for true { { x := 1 }; y := 1 }; z := 1 } } } }", "a int, x int'', y int'', z int'", ""},
		row{"{ for 1 { x := 1 }; y := 1 }", "a int, x int', y int", "for: for 1 { x := 1 }"},
	)
}

// TestForsFirstKid: a `for` does not stand about what its first Kid declares, made by hand as that is.
func TestForsFirstKid(t *testing.T) {
	f := decl(t, "func f() { for true { for true { x := 1 } } }")
	block := decl(t, "func f() { var y int; z := 2; 3 }").Kids[2]
	outer := &f.Kids[2].Kids[0]
	inner := &outer.Kids[1].Kids[0]
	inner.Kids[0] = block
	vars, faults := check.Func(nil, f)
	if len(vars) != 3 || vars[0].Name != "y" || vars[0].Loop != 1 || vars[1].Name != "z" || vars[1].Loop != 1 || vars[2].Name != "x" || vars[2].Loop != 2 {
		t.Error(tellVars(vars))
	}
	if len(faults) != 2 || faults[0].Kind != "for" || faults[1].Kind != "expr" {
		t.Error(tellFaults(faults))
	}
	outer.Kids[0] = block
	if vars, _ := check.Func(nil, f); len(vars) != 5 || vars[0].Loop != 0 || vars[1].Loop != 0 || vars[2].Loop != 1 || vars[4].Loop != 2 {
		t.Error(tellVars(vars))
	}
}

// TestNilScope: Rule 8: what a nil scope has is what no file has.
func TestNilScope(t *testing.T) {
	for _, text := range []string{
		"func f(a int, b *string, c T, a int) []bool { x := a; x = c; return nil }",
		"func f() { f(); gi = 1; x := new(int); y := new(T); if true { z := x == nil } }",
		"func f() T { for nil { var x T; x.y = 1; x := make([]int, 1)[2] } }",
	} {
		f := decl(t, text)
		vars, faults := check.Func(nil, f)
		wantVars, wantFaults := modelFunc(scope.New(), f)
		if tellVars(vars) != tellVars(wantVars) || tellFaults(faults) != tellFaults(wantFaults) {
			t.Errorf("%s:\n%s%s", text, tellVars(vars), tellFaults(faults))
		}
		hold(t, scope.New(), text)
		hold(t, nil, text)
	}
	if typ, ok := check.Types(nil, nil, expr(t, "f()")); ok || typ != "" {
		t.Errorf("%q", typ)
	}
	if typ, ok := check.Types(nil, []check.Var{{Name: "a", Type: "[]int"}}, expr(t, "&a[0]")); !ok || typ != "*int" {
		t.Errorf("%q, %t", typ, ok)
	}
}

// TestOneFunctionsNames has a function that the scope knows too: what it declares within stays within.
func TestOneFunctionsNames(t *testing.T) {
	const text = "func f(a int) int { f := a; gi := true; return f(f) }"
	s := scopeOf(text + "\nvar gi int\nfunc g() { gi = f(a); f = 1 }\n")
	f, _ := s.Find("f")
	g, _ := s.Find("g")
	for range 3 {
		if vars, faults := check.Func(s, f.Part); tellVars(vars) != "a int from 7, 0\nf int from 20, 0\ngi bool from 28, 0\n" || len(faults) != 0 {
			t.Errorf("%s%s", tellVars(vars), tellFaults(faults))
		}
		if vars, faults := check.Func(s, g.Part); len(vars) != 0 || tellFaults(faults) != "assign from 11 to 20\nassign from 22 to 27\n" {
			t.Errorf("%s%s", tellVars(vars), tellFaults(faults))
		}
	}
	// A part that stands elsewhere is told of where it stands.
	vars, faults := check.Func(s, parse.Shift(f.Part, 100))
	if len(faults) != 0 || tellVars(vars) != "a int from 107, 0\nf int from 120, 0\ngi bool from 128, 0\n" {
		t.Errorf("%s%s", tellVars(vars), tellFaults(faults))
	}
}
