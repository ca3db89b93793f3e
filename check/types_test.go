package check_test

import (
	"slices"
	"strings"
	"testing"

	"bolthole/api"
	"bolthole/check"
	"bolthole/scope"
)

// someVars are variables of names that tell their types.
func someVars() []check.Var {
	return []check.Var{
		{Name: "i", Type: "int"}, {Name: "b", Type: "bool"}, {Name: "s", Type: "string"},
		{Name: "pi", Type: "*int"}, {Name: "pb", Type: "*bool"}, {Name: "ppi", Type: "**int"}, {Name: "pli", Type: "*[]int"},
		{Name: "li", Type: "[]int"}, {Name: "lli", Type: "[][]int"}, {Name: "lpi", Type: "[]*int"},
		{Name: "t", Type: "T"}, {Name: "pt", Type: "*T"}, {Name: "ppt", Type: "**T"}, {Name: "lt", Type: "[]T"}, {Name: "u", Type: "U"}, {Name: "pu", Type: "*U"},
		{Name: "w", Type: "Nowhere"}, {Name: "pw", Type: "*Nowhere"},
		{Name: "n", Type: "nil"}, {Name: "v", Type: "void"}, {Name: "pv", Type: "*void"},
	}
}

// spaceOf is the model's space of variables.
func spaceOf(vars []check.Var) *modelSpace { return &modelSpace{vars: vars} }

// holdType holds an expression's type, none being none, and the model to it.
func holdType(t *testing.T, s *scope.Scope, vars []check.Var, e api.Part, text, want string) {
	t.Helper()
	if m := modelType(s, spaceOf(vars), e); m != want {
		t.Errorf("%s: the model tells %s, not %s", text, m, want)
	}
	if want == none {
		want = ""
		if got, ok := check.Types(s, vars, e); ok || got != "" {
			t.Errorf("%s: %q, %t, not none", text, got, ok)
		}
		return
	}
	if got, ok := check.Types(s, vars, e); !ok || got != want {
		t.Errorf("%s: %q, %t, not %q", text, got, ok, want)
	}
}

// holdTypes holds expressions' types: by each type texts that have it, with `; ` between.
func holdTypes(t *testing.T, byTypes map[string]string) {
	t.Helper()
	s := scopeOf(world)
	for want, texts := range byTypes {
		for _, text := range strings.Split(texts, "; ") {
			holdType(t, s, someVars(), expr(t, text), text, want)
		}
	}
}

// TestLeaves: P14.1: of `num`, `str` and `id`.
func TestLeaves(t *testing.T) {
	holdTypes(t, map[string]string{
		"int":     "0; 1; 12345678901234567890; i; gi; (i)",
		"string":  `""; "a"; "1"; s; gs; here`,
		"bool":    "true; false; b; gb",
		"nil":     "nil; n; gn",
		"T":       "t; gt",
		"*T":      "pt; gp",
		"[]*T":    "gl",
		"Nowhere": "w; gw",
		"void":    "v; gv",
		none:      "f0; f1; fv; T; U; void; int; bool; string; nowhere; new; make; Nowhere; a",
	})
	s := scopeOf(world)
	vars := []check.Var{{Name: "true", Type: "int"}, {Name: "false", Type: "*T"}, {Name: "nil", Type: "[]int"}, {Name: "gi", Type: "bool"}, {Name: "f0", Type: "T"}, {Name: "T", Type: "U"}, {Name: "int", Type: "string"}}
	for _, v := range vars {
		holdType(t, s, vars, expr(t, v.Name), v.Name, v.Type)
	}
	holdType(t, s, vars, expr(t, "&nil[true]"), "nil[true]", "*int")
	// What is declared twice doesn't count.
	twice := scopeOf("var a int\nvar a bool\nvar true int\nvar nil int\nfunc b() {\n}\nvar b int\n")
	holdType(t, twice, nil, expr(t, "a"), "a", "int")
	holdType(t, twice, nil, expr(t, "true"), "true", "bool")
	holdType(t, twice, nil, expr(t, "nil"), "nil", "nil")
	holdType(t, twice, nil, expr(t, "b"), "b", none)
}

// TestUnary: P14.1: of each mark, and each type.
func TestUnary(t *testing.T) {
	holdTypes(t, map[string]string{
		"int":       "-i; - -i; -1; *pi; **ppi; *&i; -*pi; *lpi[0]",
		"bool":      "!b; !!b; !true; *pb; !*pb; !(i < 1)",
		"*int":      "&i; *ppi; &*pi; &pt.k; &t.k; &li[0]; &fl()[0]; &f2(pt, li).k; &gi",
		"**int":     "&pi; &*ppi; &lpi[0]",
		"*T":        "&t; &gt; &*pt; &lt[0]; *ppt",
		"T":         "*pt; **ppt; *new(T); *f2(nil, nil); *&t",
		"*Nowhere":  "&w; &gw; &pu.w",
		"*nil":      "&n; &gn",
		"*void":     "&v; &gv; &*pv",
		"void":      "*pv",
		"*[]int":    "&li; &t.l",
		"**Nowhere": "&pw",
		none: "-b; -s; -pi; -t; -nil; -li; -f0(); -v; -nowhere; -w; " +
			"!i; !s; !1; !\"\"; !nil; !pb; !t; !f0(); !nowhere; " +
			"*i; *b; *s; *t; *li; *nil; *f0(); *v; *nowhere; *w; *1; ***ppi; " +
			"&1; &\"\"; &true; &nil; &(&i); &-i; &!b; &(i + i); &f1(1); &f0(); &new(T); &make([]int, 1); &f3(t).k; &f3(t).t.v; &f0; &T; &nowhere; &nowhere.a; &t.a; &li[b]",
	})
}

// TestBinary: P14.1: of each mark, and Kids of each two types.
func TestBinary(t *testing.T) {
	holdTypes(t, map[string]string{
		"int":    "1 + 2; i - 1; i * i; 4 / 2; i % 3; 1 + 2 * 3 - 4; fl()[0] + t.k",
		"string": `"" + "a"; s + t.s; s + s + s`,
		"bool": `1 < 2; i <= 1; i > i; 1 >= 0; b && true; b || i == 1; i == 1; i != 2; b == true; b != b; s == ""; s != s; ` +
			"pi == pi; pt != &t; pt == nil; nil == pt; nil != nil; li == nil; nil != li; lli == nil; n == nil; n == n; n == pi; li != gn; nil == fl(); pw == pw; nil == pw; pv == nil; i == *pi; &t == &gt",
		none: `1 - ""; s - s; s * s; s / s; s % s; b + b; pi + pi; pi - 1; i + b; b + i; i + s; s + 1; nil + nil; li + li; t + t; ` +
			`s < s; b < b; i < s; i > b; b >= i; nil <= nil; pi < pi; i && b; b && i; i && i; i || i; s || s; nil && nil; ` +
			"i == b; i != s; b == s; i == nil; nil == b; s != nil; t == nil; nil != t; t == t; u == u; t == u; li == li; lli != lli; li == lli; pi == pb; pt == pu; pi == i; t == pt; " +
			"w == w; w == nil; v == v; v == nil; nil == v; gv == gv; f0() == f0(); f0() == nil; n == t; n == i; f0() + 1; nowhere + 1; 1 + nowhere; nowhere == nil; nil == nowhere; nowhere == nowhere; f0 == nil",
	})
	s := scopeOf(world)
	typed := 0
	for _, mark := range []string{"+", "-", "*", "/", "%", "<", "<=", ">", ">=", "&&", "||", "==", "!=", "=", "!", "&", "", "|", "&&&", "==="} {
		for _, a := range someVars() {
			for _, b := range someVars() {
				e := api.Part{Kind: "binary", Text: mark, Kids: []api.Part{{Kind: "id", Text: a.Name}, {Kind: "id", Text: b.Name}}}
				want := modelBinary(mark, a.Type, b.Type)
				holdType(t, s, someVars(), e, a.Type+" "+mark+" "+b.Type, want)
				if want != none {
					typed++
				}
			}
		}
	}
	if typed < 50 {
		t.Errorf("%d have a type", typed)
	}
}

// TestCalls: P14.1: of `call`.
func TestCalls(t *testing.T) {
	holdTypes(t, map[string]string{
		"int":     "f1(1); f1(i); f1(f1(f1(2))); f1(-*pi + 3)",
		"*T":      "f2(pt, li); f2(nil, nil); f2(n, n); f2(&t, t.l); f2(f2(nil, li), fl())",
		"T":       "f3(t); f3(*pt); f3(f3(t))",
		"[]int":   "fl()",
		"nil":     "fn()",
		"void":    "f0(); fv()",
		"Nowhere": "fw(w); fw(gw); fw(fw(*pw))",
		none: "f0(1); f0(nowhere); f0(nil); f1(); f1(1, 2); f1(b); f1(nil); f1(f0()); f1(nowhere); f2(); f2(pt); f2(pt, li, 1); f2(li, pt); f2(t, li); f2(pt, 1); f2(f0(), nil); f3(pt); f3(nil); fw(t); fw(nil); " +
			"fvv(v); fvv(gv); fvv(1); fvv(fv()); fvv(nil); gi(); gi(1); i(1); b(); T(); T(t); nowhere(); int(1); string(s); true(); nil()",
	})
	// A variable of a function's name, or a param, stands in nobody's way: what is called is what is declared.
	vars := []check.Var{{Name: "f1", Type: "int"}, {Name: "f0", Type: "*T"}, {Name: "gi", Type: "int"}}
	s := scopeOf(world)
	holdType(t, s, vars, expr(t, "f1(f1)"), "f1(f1)", "int")
	holdType(t, s, vars, expr(t, "f0()"), "f0()", "void")
	holdType(t, s, vars, expr(t, "f1(f0)"), "f1(f0)", none)
	holdType(t, s, vars, expr(t, "gi(gi)"), "gi(gi)", none)
	holdType(t, scopeOf("var f int\nfunc f() int {\n}\n"), nil, expr(t, "f()"), "f()", none)
	holdType(t, scopeOf("func f() int {\n}\nfunc f(a int) bool {\n}\n"), nil, expr(t, "f()"), "f()", "int")
	holdType(t, scopeOf("func f(a int, a bool) T {\n}\n"), nil, expr(t, "f(1, true)"), "f(1, true)", "T")
}

// TestFieldsAndIndexes: P14.1: of `field` and `index`.
func TestFieldsAndIndexes(t *testing.T) {
	holdTypes(t, map[string]string{
		"int":     "t.k; pt.k; gt.k; gp.k; t.n.k; pt.n.n.k; t.t.v; (*pt).k; (&t).k; new(T).k; f3(t).k; f2(nil, nil).k; lt[0].k; gl[1].k; v.v; pv.v; li[0]; li[i]; t.l[t.k]; lli[0][1]; fl()[0]; make([]int, 1)[2]; lli[0][li[0]]; (*pli)[0]",
		"*T":      "t.n; pt.n; gl[0]; t.n.n",
		"string":  "t.s",
		"[]int":   "t.l; lli[0]; *pli",
		"U":       "t.t; pt.t",
		"Nowhere": "u.w; pu.w; t.t.w",
		"*int":    "lpi[0]",
		none: "t.z; t.v; u.k; pt.z; ppt.k; lt.k; i.k; s.k; nil.k; n.k; f0().k; nowhere.k; T.k; w.k; pw.k; t.z.k; (&pt).k; t.n.z; f0.k; t.T; " +
			"i[0]; s[0]; t[0]; pt[0]; pli[0]; nil[0]; n[0]; v[0]; f0()[0]; nowhere[0]; li[b]; li[s]; li[nil]; li[li]; li[nowhere]; li[f0()]; li[t]; lli[0][1][2]; li[\"\"]; T[0]",
	})
}

// TestNewAndMake: P14.1: of `new` and `make`.
func TestNewAndMake(t *testing.T) {
	holdTypes(t, map[string]string{
		"*int":   "new(int)",
		"*T":     "new(T)",
		"**T":    "new(*T)",
		"*[]U":   "new([]U)",
		"*void":  "new(void)",
		"[]int":  "make([]int, 1); make([]int, i); make([]int, *pi + t.k)",
		"[]*T":   "make([]*T, 0)",
		"[][]U":  "make([][]U, fl()[0])",
		"[]void": "make([]void, 1)",
		none: "new(Nowhere); new(*Nowhere); new([]Nowhere); new(gi); new(t); new(f0); new(nil); " +
			"make([]Nowhere, 1); make([]*Nowhere, 1); make(int, 1); make(*T, 1); make(T, 1); make(*[]int, 1); make(Nowhere, 1); " +
			"make([]int, b); make([]int, s); make([]int, nil); make([]int, nowhere); make([]int, f0()); make([]int, li)",
	})
	// A variable's name is no type's, and takes none away.
	vars := []check.Var{{Name: "T", Type: "int"}, {Name: "int", Type: "T"}}
	s := scopeOf(world)
	holdType(t, s, vars, expr(t, "new(T)"), "new(T)", "*T")
	holdType(t, s, vars, expr(t, "make([]int, T)"), "make([]int, T)", "[]int")
	holdType(t, s, vars, expr(t, "make([]int, int)"), "make([]int, int)", none)
}

// TestVariablesOfOneName: P14.1, H1: Types: of one name the last one.
func TestVariablesOfOneName(t *testing.T) {
	s := scopeOf(world)
	vars := []check.Var{{Name: "a", Type: "bool", From: 90, Loop: 3}, {Name: "c", Type: "T"}, {Name: "a", Type: "*T"}, {Name: "c", Type: "string"}, {Name: "a", Type: "int", From: 1}, {Name: "gi", Type: "string"}}
	for many, want := range []string{none, "bool", "bool", "*T", "*T", "int", "int"} {
		holdType(t, s, vars[:many], expr(t, "a"), "a", want)
	}
	for many, want := range []string{"int", "int", "int", "int", "int", "int", "string"} {
		holdType(t, s, vars[:many], expr(t, "gi"), "gi", want)
	}
	holdType(t, s, vars, expr(t, "c + c"), "c + c", "string")
	holdType(t, s, vars[:4], expr(t, "a.k"), "a.k", "int")
	for _, none := range [][]check.Var{nil, {}, make([]check.Var, 0, 5)} {
		holdType(t, s, none, expr(t, "gp.k"), "gp.k", "int")
		holdType(t, s, none, expr(t, "a"), "a", "-")
	}
	// A name is any text, of a variable that is handed in.
	odd := []check.Var{{Name: "", Type: "int"}, {Name: "\xff", Type: "[]T"}, {Name: "a b", Type: "*"}}
	for _, v := range odd {
		holdType(t, s, odd, api.Part{Kind: "id", Text: v.Name}, v.Name, v.Type)
	}
}

// TestNoExpressions: P14.1: what is none has no type.
func TestNoExpressions(t *testing.T) {
	s := scopeOf(world)
	f := decl(t, "func f(a int) int { x := 1; x = 2; if true { return 1 }; f0() }")
	body := f.Kids[2].Kids
	for _, p := range slices.Concat([]api.Part{{}, f, f.Kids[0], f.Kids[0].Kids[0], f.Kids[0].Kids[0].Kids[0], f.Kids[1], f.Kids[2], decl(t, "var x int"), decl(t, "type A struct { a int }"), {Kind: "Num"}, {Kind: "\xff"}}, body) {
		holdType(t, s, someVars(), p, p.Kind, none)
	}
}

// TestGoes: P14.1: does a type go to another one?
func TestGoes(t *testing.T) {
	types := []string{"int", "bool", "string", "T", "U", "Nowhere", "*int", "*T", "**T", "*[]int", "[]int", "[]T", "[]*T", "[][]int", "nil", "*nil", "[]nil", "void", "*void", "[]void", "", " ", "a b", "*", "[", "[]", "]", "\xff", " int", " *int", "Int", "n", "nil ", "voi"}
	for _, from := range types {
		for _, to := range types {
			want := from == to && from != "void"
			if from == "nil" && to != "" && strings.Contains("*[", to[:1]) {
				want = true
			}
			if got := check.Goes(from, to); got != want {
				t.Errorf("Goes(%q, %q): %t", from, to, got)
			}
		}
	}
	for _, two := range [][2]string{{"int", "int"}, {"T", "T"}, {"*T", "*T"}, {"[]int", "[]int"}, {"nil", "nil"}, {"nil", "*T"}, {"nil", "[]int"}, {"nil", "*void"}} {
		if !check.Goes(two[0], two[1]) {
			t.Errorf("%q does not go to %q", two[0], two[1])
		}
	}
	for _, two := range [][2]string{{"int", "bool"}, {"T", "*T"}, {"*T", "T"}, {"*T", "*U"}, {"[]int", "[]T"}, {"*T", "nil"}, {"nil", "int"}, {"nil", "T"}, {"nil", ""}, {"void", "void"}, {"void", "int"}, {"void", "*T"}, {"int", "void"}, {"nil", "void"}, {"void", "nil"}, {"*nil", "*T"}} {
		if check.Goes(two[0], two[1]) {
			t.Errorf("%q goes to %q", two[0], two[1])
		}
	}
}
