package show_test

import (
	"slices"
	"strings"
	"testing"

	"bolthole/api"
	"bolthole/show"
)

// The makers of parts.

func mk(kind, text string, kids ...api.Part) api.Part {
	return api.Part{Kind: kind, Text: text, Kids: kids}
}

func id(name string) api.Part                { return mk("id", name) }
func typ(name string) api.Part               { return mk("name", name) }
func unary(mark string, p api.Part) api.Part { return mk("unary", mark, p) }
func binary(a api.Part, mark string, b api.Part) api.Part {
	return mk("binary", mark, a, b)
}

// hold holds a part's text against what it should be.
func hold(t *testing.T, p api.Part, want string) {
	t.Helper()
	if got := show.Show(p); got != want {
		t.Errorf("Show(%s): %q, not %q", told(p), got, want)
	}
	if got := modelShow(p); got != want {
		t.Errorf("the model of %s: %q, not %q", told(p), got, want)
	}
}

// holdModel holds a part's text against the model's.
func holdModel(t *testing.T, p api.Part) {
	t.Helper()
	hold(t, p, modelShow(p))
}

// holdKids holds the texts of a kind's parts with a, b, c and so on as Kids: as many as its place in the list tells.
func holdKids(t *testing.T, kind, text string, want ...string) {
	t.Helper()
	var kids []api.Part
	for i, s := range want {
		hold(t, mk(kind, text, kids...), s)
		kids = append(kids, id(string(rune('a'+i))))
	}
}

// TestEachKind has each kind of the table without Kids, with fewer than it has, with all, and with more.
func TestEachKind(t *testing.T) {
	holdKids(t, "func", "f", "func f() ", "func f() ", "func f() ", "func f() c", "func f() c")
	holdKids(t, "var", "x", "var x ", "var x a", "var x a", "var x a")
	holdKids(t, "type", "T", "type T struct {}", "type T struct {\n\ta\n}", "type T struct {\n\ta\n\tb\n}", "type T struct {\n\ta\n\tb\n\tc\n}")
	holdKids(t, "param", "x", "x ", "x a", "x a", "x a")
	for _, kind := range []string{"name", "id", "num", "str"} {
		holdKids(t, kind, "x", "x", "x", "x", "x")
		hold(t, mk(kind, ""), "")
	}
	holdKids(t, "star", "x", "*", "*a", "*a", "*a")
	holdKids(t, "slice", "x", "[]", "[]a", "[]a", "[]a")
	holdKids(t, "block", "x", "{}", "{\n\ta\n}", "{\n\ta\n\tb\n}", "{\n\ta\n\tb\n\tc\n}")
	holdKids(t, "return", "x", "return", "return a", "return a", "return a")
	holdKids(t, "if", "x", "if  ", "if a ", "if a b", "if a b else c", "if a b else c", "if a b else c")
	holdKids(t, "for", "x", "for  ", "for a ", "for a b", "for a b", "for a b")
	holdKids(t, "assign", "x", " = ", "a = ", "a = b", "a = b", "a = b")
	holdKids(t, "define", "x", " := ", "a := ", "a := b", "a := b", "a := b")
	holdKids(t, "expr", "x", "", "a", "a", "a")
	holdKids(t, "unary", "-", "-", "-a", "-a", "-a")
	holdKids(t, "binary", "+", " + ", "a + ", "a + b", "a + b", "a + b")
	holdKids(t, "call", "f", "f()", "f(a)", "f(a, b)", "f(a, b, c)", "f(a, b, c, d)")
	holdKids(t, "field", "x", ".x", "a.x", "a.x", "a.x")
	holdKids(t, "index", "x", "[]", "a[]", "a[b]", "a[b]", "a[b]")
	holdKids(t, "new", "x", "new()", "new(a)", "new(a, b)", "new(a, b, c)")
	holdKids(t, "make", "x", "make()", "make(a)", "make(a, b)", "make(a, b, c)")
}

// TestOtherKinds has kinds that the table doesn't name, wherever they stand.
func TestOtherKinds(t *testing.T) {
	for _, kind := range []string{"", "a", "params", "result", "Func", "func ", "ids", "i", "else", "struct", "case", "\xff", "\u05d0", "block\x00"} {
		holdKids(t, kind, "x", "", "", "", "")
		p := mk(kind, "x", id("a"))
		hold(t, mk("func", "f", p, mk("result", "", p), p), "func f(a)  ")
		hold(t, mk("func", "f", mk("params", "", p, id("b"), p)), "func f(, b, ) ")
		hold(t, mk("type", "T", p, p), "type T struct {\n\t\n\t\n}")
		hold(t, mk("block", "", p, id("b"), p), "{\n\t\n\tb\n\t\n}")
		hold(t, mk("return", "", p), "return ")
		hold(t, mk("if", "", p, p, p), "if   else ")
		hold(t, mk("expr", "", p), "")
		hold(t, unary("-", p), "-")
		hold(t, binary(p, "-", p), " - ")
		hold(t, mk("call", "f", p, p, p), "f(, , )")
		hold(t, mk("index", "", p, p), "[]")
	}
}

func TestFuncs(t *testing.T) {
	param := func(name string, p api.Part) api.Part { return mk("param", name, p) }
	params := func(l ...api.Part) api.Part { return mk("params", "", l...) }
	result := func(l ...api.Part) api.Part { return mk("result", "", l...) }
	star, block := mk("star", "", typ("T")), mk("block", "")
	hold(t, mk("func", "f", params(), result(), block), "func f() {}")
	hold(t, mk("func", "f", params(param("a", typ("int"))), result(), block), "func f(a int) {}")
	hold(t, mk("func", "f", params(param("a", typ("int")), param("b", mk("slice", "", star)), param("c", star)), result(), block), "func f(a int, b []*T, c *T) {}")
	hold(t, mk("func", "f", params(), result(star), block), "func f() *T {}")
	hold(t, mk("func", "f", params(param("a", star)), result(mk("slice", "", typ("U"))), mk("block", "", mk("return", "", id("a")))), "func f(a *T) []U {\n\treturn a\n}")
	// Of the first two Kids the Kids count, whatever they are themselves, and of the second one's the first.
	hold(t, mk("func", "f", mk("result", "x", id("a"), id("b")), mk("params", "y", typ("c"), typ("d")), id("e"), id("g")), "func f(a, b) c e")
	hold(t, mk("func", "f", mk("block", "", id("a")), mk("unary", "-", binary(id("a"), "+", id("b"))), id("e")), "func f(a) a + b e")
	hold(t, mk("func", "", params(), result(mk("x", ""))), "func ()  ")
	// A param is told as such everywhere, a field only where a type has it.
	hold(t, mk("func", "f", params(mk("field", "a", id("x")), param("b", id("y"))), result(mk("field", "c", id("z"))), mk("block", "", param("d", id("w")))), "func f(x.a, b y) z.c {\n\td w\n}")
}

func TestTypes(t *testing.T) {
	field := func(name string, p api.Part) api.Part { return mk("field", name, p) }
	hold(t, mk("type", "T"), "type T struct {}")
	hold(t, mk("type", "T", field("a", typ("int"))), "type T struct {\n\ta int\n}")
	fields := mk("type", "T", field("a", typ("int")), field("b", mk("star", "", typ("T"))), field("c", mk("slice", "", mk("slice", "", typ("U")))))
	text := "type T struct {\n\ta int\n\tb *T\n\tc [][]U\n}"
	hold(t, fields, text)
	// Wherever it stands, it is indented as it is outside of all blocks.
	hold(t, mk("block", "", fields, id("x")), "{\n\t"+text+"\n\tx\n}")
	hold(t, mk("block", "", id("x"), mk("block", "", mk("block", "", fields, mk("block", "", id("y"))))), "{\n\tx\n\t{\n\t\t{\n\t\t\t"+text+"\n\t\t\t{\n\t\t\t\ty\n\t\t\t}\n\t\t}\n\t}\n}")
	hold(t, mk("block", "", mk("type", "T"), mk("block", "", mk("type", "U"))), "{\n\ttype T struct {}\n\t{\n\t\ttype U struct {}\n\t}\n}")
	hold(t, mk("type", "U", fields, id("x")), "type U struct {\n\t"+text+"\n\tx\n}")
	// What is in it stands as in one block.
	inner := mk("block", "", id("x"))
	want := "type T struct {\n\t{\n\t\tx\n\t}\n\ta {\n\t\tx\n\t}\n}"
	hold(t, mk("type", "T", inner, field("a", inner)), want)
	hold(t, mk("block", "", mk("block", "", mk("type", "T", inner, field("a", inner)), inner)), "{\n\t{\n\t\t"+want+"\n\t\t{\n\t\t\tx\n\t\t}\n\t}\n}")
	hold(t, mk("type", "T", mk("block", "", mk("block", "", mk("type", "U", inner)), inner)), "type T struct {\n\t{\n\t\t{\n\t\t\ttype U struct {\n\t{\n\t\tx\n\t}\n}\n\t\t}\n\t\t{\n\t\t\tx\n\t\t}\n\t}\n}")
}

// TestFields has a field that a type has, one that it has by another part, and others.
func TestFields(t *testing.T) {
	a := id("a")
	field := mk("field", "x", a)
	hold(t, field, "a.x")
	hold(t, mk("field", "x"), ".x")
	hold(t, mk("type", "T", field, mk("field", "x"), mk("field", "")), "type T struct {\n\tx a\n\tx \n\t \n}")
	hold(t, mk("type", "T", mk("param", "x", a), mk("param", "x")), "type T struct {\n\tx a\n\tx \n}")
	hold(t, mk("type", "T", mk("field", "y", field)), "type T struct {\n\ty a.x\n}")
	hold(t, mk("type", "T", mk("param", "y", field)), "type T struct {\n\ty a.x\n}")
	hold(t, mk("type", "T", mk("expr", "", field), mk("block", "", field)), "type T struct {\n\ta.x\n\t{\n\t\ta.x\n\t}\n}")
	hold(t, mk("type", "T", mk("field", "x", unary("-", a)), mk("field", "x", binary(a, "+", a))), "type T struct {\n\tx -a\n\tx a + a\n}")
	hold(t, mk("type", "T", mk("field", "x", a, a, a)), "type T struct {\n\tx a\n}")
	for kind, want := range map[string]string{
		"block": "{\n\ta.x\n}", "return": "return a.x", "expr": "a.x", "for": "for a.x ", "if": "if a.x ", "star": "*a.x", "slice": "[]a.x", "var": "var y a.x",
		"param": "y a.x", "field": "a.x.y", "index": "a.x[]", "call": "y(a.x)", "new": "new(a.x)", "make": "make(a.x)", "unary": "ya.x", "assign": "a.x = ", "types": "",
	} {
		hold(t, mk(kind, "y", field), want)
	}
	hold(t, mk("block", "", mk("param", "x", unary("-", a))), "{\n\tx -a\n}")
}

func TestBlocks(t *testing.T) {
	a, none := id("a"), mk("block", "")
	one := mk("block", "", a)
	hold(t, none, "{}")
	hold(t, mk("block", "", none), "{\n\t{}\n}")
	hold(t, mk("block", "", none, a, none), "{\n\t{}\n\ta\n\t{}\n}")
	hold(t, mk("block", "", a, one, a), "{\n\ta\n\t{\n\t\ta\n\t}\n\ta\n}")
	hold(t, mk("block", "", mk("block", "", one, one), one), "{\n\t{\n\t\t{\n\t\t\ta\n\t\t}\n\t\t{\n\t\t\ta\n\t\t}\n\t}\n\t{\n\t\ta\n\t}\n}")
	hold(t, mk("func", "f", mk("params", ""), mk("result", ""), mk("block", "", mk("if", "", a, one, one), mk("for", "", a, one))), "func f() {\n\tif a {\n\t\ta\n\t} else {\n\t\ta\n\t}\n\tfor a {\n\t\ta\n\t}\n}")
	// Blocks alone count, whatever else stands about.
	hold(t, mk("if", "", one, one, mk("if", "", a, one, one)), "if {\n\ta\n} {\n\ta\n} else if a {\n\ta\n} else {\n\ta\n}")
	hold(t, mk("block", "", mk("call", "f", one, mk("unary", "-", one))), "{\n\tf({\n\t\ta\n\t}, -{\n\t\ta\n\t})\n}")
	hold(t, mk("block", "", mk("func", "f", mk("params", "", one), mk("result", "", one), one)), "{\n\tfunc f({\n\t\ta\n\t}) {\n\t\ta\n\t} {\n\t\ta\n\t}\n}")
	hold(t, mk("if", "", a, none), "if a {}")
	hold(t, mk("if", "", a, none, none), "if a {} else {}")
	hold(t, mk("if", "", a, none, mk("if", "", id("b"), none, mk("if", "", id("c"), one))), "if a {} else if b {} else if c {\n\ta\n}")
}

func TestStatements(t *testing.T) {
	a, b := id("a"), id("b")
	sum := binary(a, "+", b)
	hold(t, mk("return", ""), "return")
	hold(t, mk("return", "", sum), "return a + b")
	hold(t, mk("return", "", mk("num", "")), "return ")
	hold(t, mk("expr", "", sum), "a + b")
	hold(t, mk("expr", "", mk("expr", "", mk("call", "f"))), "f()")
	hold(t, mk("assign", "", unary("*", a), sum), "*a = a + b")
	hold(t, mk("define", "", a, unary("&", b)), "a := &b")
	hold(t, mk("assign", "", mk("define", "", a, b), mk("assign", "", b, a)), "a := b = b = a")
	hold(t, mk("var", "x", mk("slice", "", mk("star", "", typ("int")))), "var x []*int")
	hold(t, mk("if", "", sum, mk("block", "", mk("return", ""))), "if a + b {\n\treturn\n}")
	hold(t, mk("for", "", binary(a, "<", mk("num", "10")), mk("block", "", mk("var", "x", typ("T")))), "for a < 10 {\n\tvar x T\n}")
}

// allKinds are those of the table.
var allKinds = strings.Fields("func var type param name id num str star slice block return if for assign define expr unary binary call field index new make")

// allMarks are those that stand between two, and some that don't.
var allMarks = append(slices.Concat(strengths...), "", "&", "!", "=", ":=", "|", "++", "\xff")

// TestUnary has each mark about each kind: brackets stand about `binary`, and between two marks &.
func TestUnary(t *testing.T) {
	for _, mark := range []string{"&", "*", "-", "!", "+", "", "&&", "\xff"} {
		for _, kind := range append(slices.Clone(allKinds), "params", "x", "") {
			p := mk(kind, "x", id("a"), id("b"))
			text := show.Show(p)
			if kind == "binary" {
				text = "(a x b)"
			}
			hold(t, unary(mark, p), mark+text)
		}
		hold(t, unary(mark, unary("-", unary("!", id("a")))), mark+"-!a")
		for _, between := range allMarks {
			hold(t, unary(mark, binary(id("a"), between, id("b"))), mark+"(a "+between+" b)")
		}
		for _, inner := range []string{"&", "*", "-", "!", "+", "", "&&", "\xff"} {
			want := mark + inner + "a"
			if mark == "&" && inner == "&" {
				want = "&(&a)"
			}
			hold(t, unary(mark, unary(inner, id("a"))), want)
			hold(t, unary(mark, mk("unary", inner)), strings.ReplaceAll(want, "a", ""))
		}
	}
	a := id("a")
	hold(t, unary("&", unary("&", unary("&", a))), "&(&(&a))")
	hold(t, unary("&", unary("*", unary("&", unary("&", a)))), "&*&(&a)")
	hold(t, unary("&", mk("expr", "", unary("&", a))), "&&a")
	hold(t, unary("-", mk("expr", "", binary(a, "-", a))), "-a - a")
	hold(t, unary("&", mk("call", "&", a)), "&&(a)")
	hold(t, unary("&", mk("x", "&", a)), "&")
	hold(t, mk("x", "&", unary("&", a)), "")
	hold(t, mk("star", "&", unary("&", a)), "*&a")
	hold(t, mk("unary", "&", a, unary("&", a)), "&a")
}

// TestBinary has each mark about each one, on both sides.
func TestBinary(t *testing.T) {
	a, b, c, d := id("a"), id("b"), id("c"), id("d")
	for _, mark := range allMarks {
		hold(t, binary(a, mark, b), "a "+mark+" b")
		for _, inner := range allMarks {
			left, right := "a "+inner+" b", "c "+inner+" d"
			wantLeft, wantRight := left, right
			if modelStrength(inner) < modelStrength(mark) {
				wantLeft = "(" + left + ")"
			}
			if modelStrength(inner) <= modelStrength(mark) {
				wantRight = "(" + right + ")"
			}
			hold(t, binary(binary(a, inner, b), mark, c), wantLeft+" "+mark+" c")
			hold(t, binary(a, mark, binary(c, inner, d)), "a "+mark+" "+wantRight)
			hold(t, binary(binary(a, inner, b), mark, binary(c, inner, d)), wantLeft+" "+mark+" "+wantRight)
		}
	}
}

// TestStrengths has of each strength what is weaker, as strong, and stronger, by hand.
func TestStrengths(t *testing.T) {
	a, b, c := id("a"), id("b"), id("c")
	for _, x := range []struct{ inner, mark, left, right string }{
		{"||", "||", "a || b || c", "a || (b || c)"},
		{"||", "&&", "(a || b) && c", "a && (b || c)"},
		{"&&", "||", "a && b || c", "a || b && c"},
		{"&&", "&&", "a && b && c", "a && (b && c)"},
		{"&&", "==", "(a && b) == c", "a == (b && c)"},
		{"==", "&&", "a == b && c", "a && b == c"},
		{"==", "!=", "a == b != c", "a != (b == c)"},
		{"<", "<=", "a < b <= c", "a <= (b < c)"},
		{">=", ">", "a >= b > c", "a > (b >= c)"},
		{"!=", "+", "(a != b) + c", "a + (b != c)"},
		{"<=", "-", "(a <= b) - c", "a - (b <= c)"},
		{"+", ">", "a + b > c", "a > b + c"},
		{"-", "+", "a - b + c", "a + (b - c)"},
		{"+", "*", "(a + b) * c", "a * (b + c)"},
		{"-", "%", "(a - b) % c", "a % (b - c)"},
		{"/", "-", "a / b - c", "a - b / c"},
		{"*", "/", "a * b / c", "a / (b * c)"},
		{"%", "%", "a % b % c", "a % (b % c)"},
		{"*", "||", "a * b || c", "a || b * c"},
		{"||", "*", "(a || b) * c", "a * (b || c)"},
		// One that is none is weaker than all that are, and as strong as others that are none.
		{"?", "||", "(a ? b) || c", "a || (b ? c)"},
		{"||", "?", "a || b ? c", "a ? b || c"},
		{"?", "!", "a ? b ! c", "a ! (b ? c)"},
		{"", "*", "(a  b) * c", "a * (b  c)"},
		{"=", "=", "a = b = c", "a = (b = c)"},
		{"&", "&&", "(a & b) && c", "a && (b & c)"},
	} {
		hold(t, binary(binary(a, x.inner, b), x.mark, c), x.left)
		hold(t, binary(a, x.mark, binary(b, x.inner, c)), x.right)
	}
	hold(t, binary(binary(binary(a, "-", b), "-", c), "-", a), "a - b - c - a")
	hold(t, binary(a, "-", binary(b, "-", binary(c, "-", a))), "a - (b - (c - a))")
	hold(t, binary(unary("-", a), "*", unary("-", binary(b, "*", c))), "-a * -(b * c)")
	hold(t, binary(mk("expr", "", binary(a, "+", b)), "*", mk("call", "+", a, b)), "a + b * +(a, b)")
	hold(t, binary(mk("x", "+", a, b), "*", mk("assign", "+", a, b)), " * a = b")
	hold(t, mk("index", "", mk("name", "+"), binary(a, "||", b)), "+[a || b]")
	hold(t, mk("call", "f", binary(a, "||", b), unary("&", c)), "f(a || b, &c)")
}

// TestOperands has what a field, and an index, stand behind: each kind.
func TestOperands(t *testing.T) {
	for _, kind := range append(slices.Clone(allKinds), "params", "x", "") {
		p := mk(kind, "x", id("a"), id("b"))
		text := show.Show(p)
		if kind == "unary" || kind == "binary" {
			text = "(" + text + ")"
		}
		hold(t, mk("field", "y", p), text+".y")
		holdModel(t, mk("field", "y", mk(kind, "x")))
		holdModel(t, mk("index", "y", mk(kind, "x")))
		hold(t, mk("index", "", p, id("c")), text+"[c]")
		// Between the brackets stand none.
		hold(t, mk("index", "", id("c"), p), "c["+show.Show(p)+"]")
	}
	a, b := id("a"), id("b")
	for _, mark := range allMarks {
		hold(t, mk("field", "y", unary(mark, a)), "("+mark+"a).y")
		hold(t, mk("index", "", unary(mark, a), unary(mark, b)), "("+mark+"a)["+mark+"b]")
		hold(t, mk("field", "y", binary(a, mark, b)), "(a "+mark+" b).y")
		hold(t, mk("index", "", binary(a, mark, b), binary(b, mark, a)), "(a "+mark+" b)[b "+mark+" a]")
	}
	hold(t, mk("field", "x", mk("field", "y", mk("index", "", mk("call", "f", a), mk("num", "0")))), "f(a)[0].y.x")
	hold(t, unary("*", mk("field", "x", unary("*", a))), "*(*a).x")
	hold(t, mk("field", "x", mk("field", "y")), ".y.x")
	hold(t, mk("index", "", mk("unary", "&")), "(&)[]")
	hold(t, mk("field", "x", mk("binary", "")), "(  ).x")
}

func TestCalls(t *testing.T) {
	a, b := id("a"), mk("str", "\"s\"")
	hold(t, mk("call", "f"), "f()")
	hold(t, mk("call", "", a), "(a)")
	hold(t, mk("call", "f", a, mk("call", "g", b, a), b), "f(a, g(\"s\", a), \"s\")")
	hold(t, mk("new", "", mk("star", "", typ("T"))), "new(*T)")
	hold(t, mk("make", "", mk("slice", "", typ("T")), binary(mk("num", "1"), "+", a)), "make([]T, 1 + a)")
	hold(t, mk("new", "f", a, b), "new(a, \"s\")")
	hold(t, mk("make", "f"), "make()")
}

func TestShape(t *testing.T) {
	x := id("x")
	for want, p := range map[string]api.Part{
		":()":                           {},
		"id:x()":                        x,
		"id:()":                         id(""),
		":x()":                          mk("", "x"),
		"a:(id:x())":                    mk("a", "", x),
		"a:(id:x()id:x())":              mk("a", "", x, x),
		"a:b(id:x()c:()id:x())":         mk("a", "b", x, mk("c", ""), x),
		"a:(b:(c:(d:(id:x()))))":        mk("a", "", mk("b", "", mk("c", "", mk("d", "", x)))),
		"a:(b:(id:x()id:x())b:()a:y())": mk("a", "", mk("b", "", x, x), mk("b", ""), mk("a", "y")),
		"a:b():c:d((::((:)(()))":        mk("a", "b():c:d(", mk("", ":(", mk("", ")("))),
	} {
		if got := show.Shape(p); got != want || modelShape(p) != want {
			t.Errorf("Shape(%s): %q, not %q", told(p), got, want)
		}
	}
}
