package show_test

import (
	"slices"
	"strings"
	"testing"

	"bolthole/api"
	"bolthole/parse"
	"bolthole/scan"
	"bolthole/show"
)

// thereAndBack holds P11.2 and P11.3 of a declaration, and tells its part's text.
func thereAndBack(t *testing.T, s string) string {
	t.Helper()
	p, at, e := parse.Decl(s)
	if e != api.OK {
		t.Fatalf("Decl(%q): %d, %v", s, at, e)
	}
	text := show.Show(p)
	if want := modelShow(p); text != want {
		t.Fatalf("Show of %q: %q, not %q", s, text, want)
	}
	q, at, e := parse.Decl(text)
	if e != api.OK || !show.Alike(p, q) || told(p) != told(q) || show.Shape(p) != show.Shape(q) {
		t.Fatalf("%q became %q: %s became %s, %d, %v", s, text, told(p), told(q), at, e)
	}
	if again := show.Show(q); again != text {
		t.Fatalf("%q became %q, and that %q", s, text, again)
	}
	return text
}

// TestDeclarations has declarations of each form, written in many ways.
func TestDeclarations(t *testing.T) {
	for want, l := range map[string][]string{
		"var x int":                           {"var x int", " var\tx\r int\n", "\n\nvar\nx int;", "var x int // c", "// c\nvar x int;\n;\n"},
		"var x []*[]T":                        {"var x []*[]T", "var x[]*[]T", "var x [ ] * [\n] T\n"},
		"type T struct {}":                    {"type T struct {}", "type T struct{}\n", "type T struct {\n}", "type\nT struct\n{;;\n}"},
		"type T struct {\n\ta int\n}":         {"type T struct{a int}", "type T struct {\na int\n}", "type T struct { ; a int ; }"},
		"type T struct {\n\ta int\n\tb *T\n}": {"type T struct{a int;b *T}", "type T struct {\n\n a int\n\n\nb*T}\n", "type T struct { a int // c\n b * T // d\n }"},
		"func f() {}":                         {"func f() {}", "func f(){}", "func f ( ) {\n\n}\n", "func f() {;}"},
		"func f(a int) int {}":                {"func f(a int)int{}", "func f(\na int) int {\n}"},
		"func f(a int, b []T, c *T) *[]T {}":  {"func f(a int,b []T,c *T)*[]T{}", "func f(a int,\n\tb []T,\n\tc *T) *[]T {\n}"},
		"func f() {\n\treturn\n}":             {"func f() { return }", "func f() { return; }", "func f() {\nreturn\n\n}"},
		"func f() {\n\treturn a.b\n}":         {"func f() { return a.b }", "func f() {return(a).b}", "func f() { return ((a.\nb)) }"},
		"func f() {\n\tvar x *T\n\tx = &y\n\tz := x\n\tf()\n\ta - b\n}":              {"func f() { var x *T; x = &y; z := x; f(); a-b }", "func f(){var x*T\n(x)=(&y)\nz:=x\nf()\n(a)-(b)}"},
		"func f() {\n\tif a {}\n}":                                                   {"func f() { if a {} }", "func f() {if(a){}}", "func f() {\nif a {\n}\n}"},
		"func f() {\n\tif a {\n\t\tb\n\t} else {\n\t\tc\n\t}\n}":                     {"func f() { if a { b } else { c } }", "func f(){if a{b;}else{;c}}", "func f() { if\na { b\n} else\n{ c\n} }"},
		"func f() {\n\tif a {} else if b {} else if c {\n\t\treturn\n\t} else {}\n}": {"func f() { if a {} else if b {} else if c { return } else {} }"},
		"func f() {\n\tfor a < b {\n\t\tfor c {}\n\t\t{\n\t\t\td\n\t\t}\n\t}\n}":     {"func f() { for a < b { for c {}; { d } } }", "func f() { for (a<b) {\nfor((c)){}\n{d}\n} }"},
		"func f() {\n\t{}\n\t{\n\t\t{}\n\t}\n}":                                      {"func f() { {}; { {} } }", "func f() {{}\n{{}}}"},
		"func f() {\n\tx := &(&y)\n\t&(&(&y))\n\t&*&-&y\n}":                          {"func f() { x := & &y; &(&(&y)); &*&-&y }", "func f() { x := &(&y); & & &y; &(*(&(-(&(y))))) }"},
		"func f() {\n\t-(a + b) * -c - --d\n}":                                       {"func f() { -(a+b)*-c- - -d }", "func f() { (((-((a)+b))*(-c)))-(-(-(d))) }"},
		"func f() {\n\t(*p).a[(-i)[0]] = (&x).y.z\n}":                                {"func f() { (*p).a[(-i)[0]] = (&x).y.z }", "func f() { ((*(p)).a)[((-i))[(0)]]=(((&x).y)).z }"},
		"func f() {\n\t*p.a = !x[i].b\n}":                                            {"func f() { *p.a = !x[i].b }", "func f() { *(p.a) = !((x[i]).b) }"},
		"func f() {\n\t(a + b).c[(a || b)[d && e]]\n}":                               {"func f() { (a+b).c[(a||b)[d&&e]] }", "func f() { ((a+b)).c[((a||b)[(d&&e)])] }"},
		"func f() {\n\tg(new(*T), make([]int, 1 + 2), h(), \"//\\\")[0]\n}":          {"func f() { g(new(*T),make([]int,1+2),h(),\"//\\\")[0] }", "func f() { (g(new(\n*T),make([]int,(1+2)),(h()),(\"//\\\")))[0] }"},
		"func f() {\n\tnew + make * (new - make)\n}":                                 {"func f() { new+make*(new-make) }", "func f() { (new)+(make)*((new)-(make)) }"},
		"func f() {\n\t1.a[\"\"][\"\xff\"]\n}":                                       {"func f() { 1.a[\"\"][\"\xff\"] }"},
		"func f() {\n\ta - (b - (c - d) - e) - f\n}":                                 {"func f() { a-(b-(c-d)-e)-f }", "func f() { ((a-((b-(c-d))-e))-f) }"},
		"func f() {\n\ta || b && c == d + e * f\n}":                                  {"func f() { a||b&&c==d+e*f }", "func f() { a||(b&&(c==(d+(e*f)))) }"},
		"func f() {\n\t((((a || b) && c) == d) + e) * f\n}":                          {"func f() { ((((a||b)&&c)==d)+e)*f }"},
		"func f() {\n\ta * b / c % d <= e - f + g != h\n}":                           {"func f() { a*b/c%d<=e-f+g!=h }", "func f() { ((((a*b)/c)%d)<=((e-f)+g))!=h }"},
	} {
		for _, s := range l {
			if got := thereAndBack(t, s); got != want {
				t.Errorf("%q became %q, not %q", s, got, want)
			}
		}
	}
}

// The makers of right parts, nested so deep at most: whatever is made is some declaration's, or a part of one.

func (n *numbers) decl(deep int) api.Part {
	switch n.below(6) {
	case 0:
		return n.varDecl(deep)
	case 1:
		return mk("type", n.name(), n.named("field", deep)...)
	}
	result := mk("result", "")
	if n.below(2) == 0 {
		result.Kids = []api.Part{n.typeOf(deep)}
	}
	return mk("func", n.name(), mk("params", "", n.named("param", deep)...), result, n.block(deep))
}

func (n *numbers) name() string { return n.one("a", "b", "c1", "_", "T", "new", "make", "iff") }

func (n *numbers) varDecl(deep int) api.Part { return mk("var", n.name(), n.typeOf(deep)) }

// named are names with types, of a kind.
func (n *numbers) named(kind string, deep int) []api.Part {
	var l []api.Part
	for range n.below(4) {
		l = append(l, mk(kind, n.name(), n.typeOf(deep)))
	}
	return l
}

func (n *numbers) typeOf(deep int) api.Part {
	if deep == 0 || n.below(2) == 0 {
		return typ(n.name())
	}
	return mk(n.one("star", "slice"), "", n.typeOf(deep-1))
}

func (n *numbers) block(deep int) api.Part {
	p := mk("block", "")
	for range n.below(4) {
		p.Kids = append(p.Kids, n.stmt(max(deep-1, 0)))
	}
	return p
}

func (n *numbers) stmt(deep int) api.Part {
	choice := n.below(10)
	if deep == 0 {
		choice = n.below(5)
	}
	switch choice {
	case 0:
		return n.varDecl(deep)
	case 1:
		return mk("return", "")
	case 2:
		return mk("return", "", n.expr(deep))
	case 3, 4:
		return mk("expr", "", n.expr(deep))
	case 5, 6:
		return mk(n.one("assign", "define"), "", n.expr(deep), n.expr(deep))
	case 7:
		return mk("for", "", n.expr(deep), n.block(deep))
	case 8:
		return n.ifStmt(deep)
	}
	return n.block(deep)
}

func (n *numbers) ifStmt(deep int) api.Part {
	p := mk("if", "", n.expr(deep), n.block(deep))
	switch n.below(3) {
	case 0:
		p.Kids = append(p.Kids, n.block(deep))
	case 1:
		p.Kids = append(p.Kids, n.ifStmt(max(deep-1, 0)))
	}
	return p
}

func (n *numbers) expr(deep int) api.Part {
	if deep == 0 {
		switch n.below(4) {
		case 0:
			return mk("num", n.one("0", "1", "23"))
		case 1:
			return mk("str", n.one(`""`, `"s"`, `"( ;"`, "\"\u05d0\xff\"", `"//\"`))
		}
		return id(n.name())
	}
	deep -= 1 + n.below(2)*n.below(deep)
	switch n.below(11) {
	case 0, 1, 2:
		return unary(n.one("&", "&", "*", "-", "!"), n.expr(deep))
	case 3, 4, 5, 6:
		return binary(n.expr(deep), n.one(slices.Concat(strengths...)...), n.expr(deep))
	case 7:
		p := mk("call", n.one("f", "g", "news"))
		for range n.below(4) {
			p.Kids = append(p.Kids, n.expr(deep))
		}
		return p
	case 8:
		return mk("field", n.name(), n.expr(deep))
	case 9:
		return mk("index", "", n.expr(deep), n.expr(deep))
	}
	if n.below(2) == 0 {
		return mk("new", "", n.typeOf(deep))
	}
	return mk("make", "", n.typeOf(deep), n.expr(deep))
}

// hand writes a part's words as somebody may, with more brackets and Semis than there must be. A Semi that must be stands as `;`, one that may be as `;?`.
type hand struct {
	n     *numbers
	words []string
}

func (h *hand) write(words ...string) { h.words = append(h.words, words...) }

func (h *hand) decl(p api.Part) {
	switch p.Kind {
	case "func":
		h.write("func", p.Text, "(")
		h.list(p.Kids[0].Kids, ",", h.named)
		h.write(")")
		h.list(p.Kids[1].Kids, "", h.typeOf)
		h.stmt(p.Kids[2])
	case "type":
		h.write("type", p.Text, "struct")
		h.lines(p.Kids, h.named)
	default:
		h.stmt(p)
	}
	h.write(";?")
}

// list writes parts with a word between.
func (h *hand) list(l []api.Part, between string, item func(api.Part)) {
	for i, p := range l {
		if i > 0 {
			h.write(between)
		}
		item(p)
	}
}

func (h *hand) lines(l []api.Part, item func(api.Part)) {
	h.write("{", ";?")
	h.list(l, ";", item)
	if len(l) > 0 {
		h.write(";?")
	}
	h.write("}")
}

func (h *hand) named(p api.Part) {
	h.write(p.Text)
	h.typeOf(p.Kids[0])
}

func (h *hand) typeOf(p api.Part) {
	switch p.Kind {
	case "star":
		h.write("*")
	case "slice":
		h.write("[", "]")
	default:
		h.write(p.Text)
	}
	h.list(p.Kids, "", h.typeOf)
}

func (h *hand) stmt(p api.Part) {
	switch p.Kind {
	case "var":
		h.write("var")
		h.named(p)
	case "block":
		h.lines(p.Kids, h.stmt)
	case "if":
		h.write("if")
		h.expr(p.Kids[0])
		h.stmt(p.Kids[1])
		for _, k := range p.Kids[2:] {
			h.write("else")
			h.stmt(k)
		}
	case "for":
		h.write("for")
		h.expr(p.Kids[0])
		h.stmt(p.Kids[1])
	case "return":
		h.write("return")
		h.list(p.Kids, "", h.expr)
	default:
		h.list(p.Kids, map[string]string{"assign": "=", "define": ":="}[p.Kind], h.expr)
	}
}

func (h *hand) expr(p api.Part) { h.atLeast(0, p) }

// atLeast writes an expression where it must hold so strong: as a `binary` of that strength, 6 as a `unary`, 7 as what is none of both.
func (h *hand) atLeast(least int, p api.Part) {
	strength := 7
	switch p.Kind {
	case "unary":
		strength = 6
	case "binary":
		strength = 1 + modelStrength(p.Text)
	}
	if strength < least || h.n.below(6) == 0 {
		h.write("(")
		h.expr(p)
		h.write(")")
		return
	}
	switch p.Kind {
	case "unary":
		h.write(p.Text)
		h.atLeast(6, p.Kids[0])
	case "binary":
		h.atLeast(strength, p.Kids[0])
		h.write(p.Text)
		h.atLeast(strength+1, p.Kids[1])
	default:
		h.operand(p)
	}
}

func (h *hand) operand(p api.Part) {
	switch p.Kind {
	case "field":
		h.atLeast(7, p.Kids[0])
		h.write(".", p.Text)
	case "index":
		h.atLeast(7, p.Kids[0])
		h.write("[")
		h.expr(p.Kids[1])
		h.write("]")
	case "call":
		h.write(p.Text, "(")
		h.list(p.Kids, ",", h.expr)
		h.write(")")
	case "new":
		h.write("new", "(")
		h.typeOf(p.Kids[0])
		h.write(")")
	case "make":
		h.write("make", "(")
		h.typeOf(p.Kids[0])
		h.write(",")
		h.expr(p.Kids[1])
		h.write(")")
	default:
		h.write(p.Text)
	}
}

// text is what is written, with blanks, bytes 10 and comments where they may stand.
func (h *hand) text() string {
	s, last := "", "{"
	for _, word := range h.words {
		switch word {
		case ";":
			s += h.n.one(";", ";", "\n", " \n", "\n\n;\n", " // c\n", ";// c\n;")
			last = "{"
		case ";?":
			s += h.n.one("", "", "", ";", "\n", " ;\n\n", "// c\n")
		default:
			s += h.between(last, word) + word
			last = word
		}
	}
	return s
}

// between is what may stand between two words: nothing only where they are the same two words without, no byte 10 where it would be a Semi.
func (h *hand) between(a, b string) string {
	l := []string{" ", " ", "\t", "\r "}
	if !scan.Ends(scan.Scan(a)[0]) {
		l = append(l, "\n", "\n\n\t", " // c\n")
	}
	if words := scan.Scan(a + b); len(words) > 1 && words[0].Text == a && words[1].Text == b {
		l = append(l, "", "", "", "")
	}
	return h.n.one(l...)
}

// TestManyDeclarations has declarations of all sorts, each written in some ways: their parts are known, and so their texts.
func TestManyDeclarations(t *testing.T) {
	n := numbers(13)
	kinds := map[string]int{}
	for many := range 4000 {
		p := n.decl(many % 6)
		for _, q := range parse.All(p) {
			kinds[q.Kind]++
		}
		want := modelShow(p)
		for range 3 {
			h := hand{n: &n}
			h.decl(p)
			s := h.text()
			q, at, e := parse.Decl(s)
			if e != api.OK || told(p) != told(q) || !show.Alike(p, q) {
				t.Fatalf("%s was written %q: %s, %d, %v", told(p), s, told(q), at, e)
			}
			if got := thereAndBack(t, s); got != want {
				t.Fatalf("%q became %q, not %q", s, got, want)
			}
		}
		if got := thereAndBack(t, want); got != want {
			t.Fatalf("%q became %q", want, got)
		}
	}
	for _, kind := range allKinds {
		if kinds[kind] < 100 {
			t.Errorf("%d of %s", kinds[kind], kind)
		}
	}
}

// inFunc is a function that has an expression.
func inFunc(e api.Part) api.Part {
	return mk("func", "f", mk("params", ""), mk("result", ""), mk("block", "", mk("expr", "", e)))
}

// pairs are where brackets stand that are about an expression alone, each with its end.
func pairs(s string) [][2]int {
	var all, open [][2]int
	ahead := api.Mark
	for _, word := range scan.Scan(s) {
		switch word.Text {
		case "(":
			alone := 0
			if ahead != api.Name {
				alone = 1
			}
			open = append(open, [2]int{word.From, alone})
		case ")":
			last := open[len(open)-1]
			open = open[:len(open)-1]
			if last[1] == 1 {
				all = append(all, [2]int{last[0], word.From})
			}
		}
		ahead = word.Word
	}
	return all
}

// holdExpr holds an expression to come back, and without any of its brackets not to.
func holdExpr(t *testing.T, e api.Part) {
	t.Helper()
	p := inFunc(e)
	s := show.Show(p)
	if got := thereAndBack(t, s); got != s {
		t.Fatalf("%q became %q", s, got)
	}
	if q, _, _ := parse.Decl(s); told(p) != told(q) || !show.Alike(p, q) {
		t.Fatalf("%s became %q, and that %s", told(p), s, told(q))
	}
	for _, x := range pairs(s) {
		less := s[:x[0]] + s[x[0]+1:x[1]] + s[x[1]+1:]
		if q, _, e := parse.Decl(less); e == api.OK && show.Alike(p, q) {
			t.Fatalf("%q is alike %q", less, s)
		}
	}
}

// withOne are expressions that have one as a Kid, and a beside.
func withOne(e api.Part, signs, marks []string) []api.Part {
	a := id("a")
	l := []api.Part{mk("field", "x", e), mk("index", "", e, a), mk("index", "", a, e), mk("call", "f", e, a), mk("make", "", typ("T"), e)}
	for _, sign := range signs {
		l = append(l, unary(sign, e))
	}
	for _, mark := range marks {
		l = append(l, binary(a, mark, e), binary(e, mark, a))
	}
	return l
}

// withTwo are likewise such that have any two of them.
func withTwo(l []api.Part, signs, marks []string) []api.Part {
	var all []api.Part
	for _, x := range l {
		all = append(all, withOne(x, signs, marks)...)
		for _, y := range l {
			for _, mark := range marks {
				all = append(all, binary(x, mark, y))
			}
		}
	}
	return all
}

// TestAllExpressions has all that have a sign, a mark, a field, an index or a call in one another, to some depth.
func TestAllExpressions(t *testing.T) {
	signs, marks := strings.Fields("& * - !"), slices.Concat(strengths...)
	one := withOne(id("a"), signs, marks)
	for _, e := range withTwo(one, signs, marks) {
		holdExpr(t, e)
	}
	signs, marks = strings.Fields("& -"), strings.Fields("&& - *")
	for _, e := range withTwo(withOne(id("a"), signs, marks), signs, marks) {
		for _, x := range withOne(e, signs, marks) {
			holdExpr(t, x)
		}
	}
}

// TestNestedDeclarations has declarations whose parts are nested as deep as they may be.
func TestNestedDeclarations(t *testing.T) {
	for _, x := range []struct{ ahead, each, midst, end, behind string }{
		{"var x ", "*[]", "T", "", ""},
		{"type T struct { a ", "[]*", "T", "", "}"},
		{"func f() { ", "{ { ", "", "} }", "}"},
		{"func f() { ", "- -", "a", "", "}"},
		{"func f() { ", "& & ", "a", "", "}"},
		{"func f() { return ", "a-(b-(", "c", "))", "}"},
		{"func f() { x = ", "a+b-", "c", "", "}"},
		{"func f() { ", "(&(", "a", ").b)", "}"},
		{"func f() { ", "a[b[", "c", "]]", "}"},
		{"func f() { ", "f(1,g(", "c", "))", "}"},
		{"func f() { ", "if a {} else if b {} else ", "{}", "", "}"},
		{"func f() { ", "for a { if b { ", "}", "} }", ""},
	} {
		deepest := 0
		for many := range api.MaxNest {
			s := x.ahead + strings.Repeat(x.each, many) + x.midst + strings.Repeat(x.end, many) + x.behind
			if p, _, e := parse.Decl(s); e == api.OK {
				deepest = max(deepest, parse.Deep(p))
				thereAndBack(t, s)
			}
		}
		if deepest < api.MaxNest-3 {
			t.Errorf("%s%s: %d", x.ahead, x.each, deepest)
		}
	}
}
