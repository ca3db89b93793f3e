package check_test

import (
	"strconv"
	"strings"
	"testing"

	"bolthole/check"
	"bolthole/parse"
)

// numbers come in an order without a rule that a reader could see, but each time the same one.
type numbers uint32

// below is the next one, below a limit.
func (n *numbers) below(limit int) int {
	*n = *n*1664525 + 1013904223
	return int(*n>>8) % limit
}

// one is one of a list.
func (n *numbers) one(l ...string) string { return l[n.below(len(l))] }

// typ is a type's text, mostly of one that is there.
func (n *numbers) typ() string {
	if n.below(4) == 0 {
		return n.one("*", "[]") + n.typ()
	}
	return n.one("int", "int", "int", "bool", "string", "T", "T", "U", "U", n.one("void", "Nowhere", "nil", "gi", "f0"))
}

// named is a name that mostly tells its variable's type.
func (n *numbers) named(typ string) string {
	if n.below(20) == 0 {
		return n.one("a", "b", "gi", "f0", "f1", "T", "nil", "true", "nowhere")
	}
	return strings.NewReplacer("*", "p", "[]", "l").Replace(strings.ToLower(typ)) + n.one("", "", "2")
}

// forms are how expressions of a type may be written, `<T>` being one of the type T.
func forms(typ string) []string {
	switch typ {
	case "int":
		return []string{"(<int> + <int>)", "(<int> - <int>)", "(<int> * <int>)", "(<int> / <int>)", "(<int> % <int>)", "(-<int>)", "<T>.k", "<*T>.k", "<U>.v", "f1(<int>)", "(*<*int>)", "<[]int>[<int>]"}
	case "bool":
		return []string{"(<int> == <int>)", "(<*T> == <*T>)", "(<*U> != nil)", "(nil == <[]int>)", "(<string> != <string>)", "(<bool> == <bool>)", "(<int> < <int>)", "(<int> <= <int>)", "(<int> > <int>)", "(<int> >= <int>)", "(<bool> && <bool>)", "(<bool> || <bool>)", "(!<bool>)", "(*<*bool>)", "(<T> == <T>)"}
	case "string":
		return []string{"(<string> + <string>)", "<T>.s", "<*T>.s", "(*<*string>)"}
	case "void":
		return []string{"f0()", "fv()", "(*<*void>)"}
	case "[]int":
		return []string{"<T>.l", "<*T>.l", "fl()", "make([]int, <int>)"}
	case "*T":
		return []string{"<T>.n", "<*T>.n", "f2(<*T>, <[]int>)", "f2(nil, <[]int>)", "new(T)", "(&<T>)"}
	case "U":
		return []string{"<T>.t", "<*T>.t", "(*<*U>)", "<[]U>[<int>]"}
	}
	if rest, ok := strings.CutPrefix(typ, "*"); ok {
		return []string{"new(" + rest + ")", "(&<" + rest + ">)", "(&<" + rest + ">)", "(*<*" + typ + ">)"}
	}
	if strings.HasPrefix(typ, "[]") {
		return []string{"make(" + typ + ", <int>)", "(*<*" + typ + ">)", "<[]" + typ + ">[<int>]"}
	}
	return []string{"(*<*" + typ + ">)", "<[]" + typ + ">[<int>]", "f3(<" + typ + ">)", "fw(<" + typ + ">)"}
}

// leaf is an expression without others, mostly of a type.
func (n *numbers) leaf(typ string) string {
	if n.below(3) > 0 {
		return n.named(typ)
	}
	switch typ {
	case "int":
		return n.one("gi", strconv.Itoa(n.below(30)))
	case "bool":
		return n.one("gb", "true", "false")
	case "string":
		return n.one("gs", `""`, `"a"`)
	case "T":
		return "gt"
	case "*T":
		return n.one("gp", "nil")
	}
	return n.one("nil", "gn", "gv", "gw", "gl", n.named(typ))
}

// expr is an expression, mostly of a type.
func (n *numbers) expr(typ string, deep int) string {
	if n.below(40) == 0 {
		typ = n.typ()
	}
	if deep == 0 || n.below(3) == 0 {
		return n.leaf(typ)
	}
	var b strings.Builder
	for i, s := range strings.Split(n.one(forms(typ)...), "<") {
		of, behind, ok := strings.Cut(s, ">")
		if i == 0 || !ok { // a mark stands between, not a type
			b.WriteString(strings.Repeat("<", min(i, 1)) + s)
		} else {
			b.WriteString(n.expr(of, deep-1) + behind)
		}
	}
	return b.String()
}

// simple is a statement without others.
func (n *numbers) simple(result string) string {
	typ := n.typ()
	switch n.below(11) {
	case 0, 1:
		return "var " + n.named(typ) + " " + typ
	case 2, 3:
		return n.named(typ) + " := " + n.expr(typ, 3)
	case 4:
		return n.expr(typ, 1) + " := " + n.expr(typ, 1)
	case 5, 6, 7:
		return n.expr(typ, 2) + " = " + n.expr(typ, 2)
	case 8:
		return n.expr(typ, 2)
	case 9:
		return n.one("f0()", "fv()", "fl()", "f1("+n.expr("int", 1)+")", "f3("+n.expr("T", 1)+")")
	}
	if n.below(5) == 0 {
		result = n.one("", "int")
	}
	if result == "" {
		return "return"
	}
	return "return " + n.expr(result, 2)
}

// statement is one, that other ones may stand in, so deep at most.
func (n *numbers) statement(result string, deep int) string {
	if deep == 0 {
		return n.simple(result)
	}
	switch n.below(7) {
	case 0:
		return n.block(result, deep-1)
	case 1:
		return "for " + n.expr("bool", 2) + " " + n.block(result, deep-1)
	case 2:
		s := "if " + n.expr("bool", 2) + " " + n.block(result, deep-1)
		for n.below(3) == 0 {
			s += " else if " + n.expr("bool", 2) + " " + n.block(result, deep-1)
		}
		if n.below(2) == 0 {
			s += " else " + n.block(result, deep-1)
		}
		return s
	}
	return n.simple(result)
}

// block is one, of statements.
func (n *numbers) block(result string, deep int) string {
	s := "{\n"
	for range n.below(6) {
		s += n.statement(result, deep) + "\n"
	}
	return s + "}"
}

// function is one's text.
func (n *numbers) function() string {
	s := "func f("
	for i := range n.below(10) {
		typ := n.typ()
		s += strings.Repeat(", ", min(i, 1)) + n.named(typ) + " " + typ
	}
	result := n.one("", n.typ())
	return s + ") " + result + " " + n.block(result, 3)
}

// TestManyFunctions holds what is told of functions of all sorts against the model: P14.1 and P14.2.
func TestManyFunctions(t *testing.T) {
	n := numbers(14)
	s := scopeOf(world)
	statements, wrong := map[string]int{}, map[string]int{}
	vars := 0
	for range 4000 {
		text := n.function()
		l, faults := hold(t, s, text)
		vars += len(l)
		for _, p := range parse.All(decl(t, text)) {
			statements[p.Kind]++
		}
		for _, x := range faults {
			wrong[x.Kind]++
		}
	}
	for _, kind := range []string{"param", "result", "var", "define", "assign", "expr", "return", "if", "for"} {
		if right := statements[kind] - wrong[kind]; right < 300 || wrong[kind] < 100 {
			t.Errorf("of %s %d are right, %d wrong", kind, right, wrong[kind])
		}
	}
	if vars < 10000 || wrong["block"] > 0 {
		t.Errorf("%d variables", vars)
	}
}

// TestManyTypes holds the types of all expressions that functions of all sorts have against the model, in spaces of any variables: P14.1, Types.
func TestManyTypes(t *testing.T) {
	n := numbers(41)
	s := scopeOf(world)
	typed, not := map[string]int{}, map[string]int{}
	for range 600 {
		f := decl(t, n.function())
		var vars []check.Var
		for range n.below(60) {
			typ := n.typ()
			vars = append(vars, check.Var{Name: n.named(typ), Type: typ, From: n.below(9), Loop: n.below(9)})
		}
		for _, p := range parse.All(f.Kids[2]) {
			want := modelType(s, spaceOf(vars), p)
			holdType(t, s, vars, p, p.Kind, want)
			if want != none {
				typed[p.Kind]++
			} else {
				not[p.Kind]++
			}
		}
	}
	for _, kind := range []string{"num", "str", "id", "unary", "binary", "call", "field", "index", "new", "make"} {
		if typed[kind] < 100 || not[kind] < 30 && kind != "num" && kind != "str" {
			t.Errorf("of %s %d have a type, %d have none", kind, typed[kind], not[kind])
		}
	}
}

// TestSmallFunctions has all of three statements, one behind the other, in one block or in two: P14.1.
func TestSmallFunctions(t *testing.T) {
	s := scopeOf(world)
	statements := []string{"var a int", "var a T", "var b Nowhere", "a := 1", "a := b", "b := a", "b := &a", "b := nil", "a = 1", "a = b", "*b = a", "f1(a)", "f1(*b)", "b", "return a", "return *b", "return"}
	for _, x := range statements {
		for _, y := range statements {
			for _, z := range statements {
				for _, in := range []string{"x; y; z", "{ x; y }; z", "x; { y; z }", "if a == 1 { x; y } else { z }; z", "for b != nil { x; y }; z"} {
					body := strings.NewReplacer("x", x, "y", y, "z", z).Replace(in)
					hold(t, s, "func f(a int, b *int) int { "+body+" }")
				}
			}
		}
	}
}
