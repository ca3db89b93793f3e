package parse_test

import (
	"reflect"
	"strconv"
	"strings"
	"testing"

	"bolthole/api"
	"bolthole/parse"
)

// told tells a part without its places: its kind, its Text behind a `:`, its Kids in brackets.
func told(p api.Part) string {
	s := p.Kind
	if p.Text != "" {
		s += ":" + p.Text
	}
	return s + toldKids(p, told)
}

// placed tells likewise a part with its places.
func placed(p api.Part) string {
	s := p.Kind
	if p.Text != "" {
		s += ":" + p.Text
	}
	return s + " " + strconv.Itoa(p.From) + " " + strconv.Itoa(p.To) + toldKids(p, placed)
}

func toldKids(p api.Part, told func(api.Part) string) string {
	var l []string
	for _, k := range p.Kids {
		l = append(l, told(k))
	}
	if l == nil {
		return ""
	}
	return "(" + strings.Join(l, ", ") + ")"
}

// part is a declaration's.
func part(t *testing.T, s string) api.Part {
	t.Helper()
	p, at, e := parse.Decl(s)
	if e != api.OK || at != 0 {
		t.Errorf("Decl(%q): %d, %v", s, at, e)
	}
	return p
}

// hold holds a declaration's part, without its places, against what it should be.
func hold(t *testing.T, s, want string) {
	t.Helper()
	if got := told(part(t, s)); got != want {
		t.Errorf("Decl(%q): %s, not %s", s, got, want)
	}
}

// holdPlaces holds a declaration's part, with its places, against what it should be.
func holdPlaces(t *testing.T, s, want string) {
	t.Helper()
	if got := placed(part(t, s)); got != want {
		t.Errorf("Decl(%q): %s, not %s", s, got, want)
	}
}

// holdBody holds a function's statements against what they should be.
func holdBody(t *testing.T, s, want string) {
	t.Helper()
	hold(t, "func f() { "+s+" }", "func:f(params, result, block"+inBrackets(want)+")")
}

// holdExpr holds an expression against what it should be, wherever it stands.
func holdExpr(t *testing.T, s, want string) {
	t.Helper()
	holdBody(t, s, "expr("+want+")")
	holdBody(t, "return "+s, "return("+want+")")
	holdBody(t, "x = "+s, "assign(id:x, "+want+")")
	holdBody(t, s+" := "+s, "define("+want+", "+want+")")
	holdBody(t, "if "+s+" { }", "if("+want+", block)")
	holdBody(t, "for "+s+" { }", "for("+want+", block)")
	holdBody(t, "g(1, "+s+", "+s+")", "expr(call:g(num:1, "+want+", "+want+"))")
	holdBody(t, "x["+s+"]", "expr(index(id:x, "+want+"))")
	holdBody(t, "make(T, "+s+")", "expr(make(name:T, "+want+"))")
	holdBody(t, "("+s+")", "expr("+want+")")
	holdBody(t, "!(("+s+"))", "expr(unary:!("+want+"))")
}

// inBrackets are Kids, if there are any.
func inBrackets(kids string) string {
	if kids == "" {
		return ""
	}
	return "(" + kids + ")"
}

// fails holds a text to be no declaration, by the word at a byte.
func fails(t *testing.T, s string, want int) {
	t.Helper()
	p, at, e := parse.Decl(s)
	if e != api.ErrSyntax || at != want || !reflect.DeepEqual(p, api.Part{}) {
		t.Errorf("Decl(%q): %s, %d, %v, not at %d", s, told(p), at, e, want)
	}
}

// failsAt holds a text to be no declaration, by the word that stands behind a `^`, which isn't a byte of it.
func failsAt(t *testing.T, l ...string) {
	t.Helper()
	for _, s := range l {
		ahead, behind, found := strings.Cut(s, "^")
		if !found {
			t.Fatalf("%q: no ^", s)
		}
		fails(t, ahead+behind, len(ahead))
	}
}

// failsInBody holds statements to be none of a function's, by the word that stands behind a `^`.
func failsInBody(t *testing.T, l ...string) {
	t.Helper()
	for _, s := range l {
		failsAt(t, "func f() {"+s+"}")
	}
}

func TestVars(t *testing.T) {
	hold(t, "var x int", "var:x(name:int)")
	hold(t, "var _ _1", "var:_(name:_1)")
	hold(t, "var x x", "var:x(name:x)")
	hold(t, "var new make", "var:new(name:make)")
	hold(t, "var make new", "var:make(name:new)")
	hold(t, "\n\n\tvar\n\nx\rint // of x", "var:x(name:int)") // behind `var` no byte 10 is a Semi
	failsAt(t, "var ^", "var x^", "var ^1 int", "var ^\"x\" int", "var ^if int", "var ^var int", "var ^; x int", "var ^* int",
		"var x^;", "var x^\nint", "var x ^1", "var x ^\"int\"", "var x ^struct", "var x ^= 1", "var x ^:= 1", "var x^, y int", "var x ^(int)", "var x int ^= 1", "var x int^, y int", "var ^(x int)", "var x int ^int", "var x int^.y", "var x int^[]")
}

func TestTypes(t *testing.T) {
	for s, want := range map[string]string{
		"T":           "name:T",
		"*T":          "star(name:T)",
		"**T":         "star(star(name:T))",
		"[]T":         "slice(name:T)",
		"[][]T":       "slice(slice(name:T))",
		"*[]T":        "star(slice(name:T))",
		"[]*T":        "slice(star(name:T))",
		"[]**[][]*T":  "slice(star(star(slice(slice(star(name:T))))))",
		"* [ ] new":   "star(slice(name:new))",
		"*\n*[\n\n]T": "star(star(slice(name:T)))", // behind `*`, and `[`, no byte 10 is a Semi
	} {
		hold(t, "var x "+s, "var:x("+want+")")
		hold(t, "type T struct { a "+s+"; b "+s+" }", "type:T(field:a("+want+"), field:b("+want+"))")
		hold(t, "func f(a "+s+", b "+s+") "+s+" { }", "func:f(params(param:a("+want+"), param:b("+want+")), result("+want+"), block)")
		holdBody(t, "var x "+s, "var:x("+want+")")
		holdBody(t, "new("+s+")", "expr(new("+want+"))")
		holdBody(t, "make("+s+", 1)", "expr(make("+want+", num:1))")
	}
	failsAt(t, "var x *^", "var x *^;", "var x *^1", "var x **[^1]T", "var x [ ]^\nT", "var x [^", "var x [^1]T", "var x [^x]T", "var x [^[]]T", "var x []^", "var x []^\n", "var x []^]", "var x ^]T", "var x *^(T)", "var x ^&T", "var x *^&T", "var x *^func", "var x []^{}", "var x ^-T", "var x *T^*", "var x T^*")
}

func TestFuncs(t *testing.T) {
	for s, want := range map[string]string{
		"()":                         "params, result",
		"(a int)":                    "params(param:a(name:int)), result",
		"(a int, b *T)":              "params(param:a(name:int), param:b(star(name:T))), result",
		"(a int, b int, c int)":      "params(param:a(name:int), param:b(name:int), param:c(name:int)), result",
		"(a a, a a)":                 "params(param:a(name:a), param:a(name:a)), result",
		"(new make, make new) new":   "params(param:new(name:make), param:make(name:new)), result(name:new)",
		"(\na int,\n\nb int)":        "params(param:a(name:int), param:b(name:int)), result",
		"() int":                     "params, result(name:int)",
		"() *int":                    "params, result(star(name:int))",
		"() []*int":                  "params, result(slice(star(name:int)))",
		"(a int, b []int, c f) *[]T": "params(param:a(name:int), param:b(slice(name:int)), param:c(name:f)), result(star(slice(name:T)))",
	} {
		hold(t, "func f"+s+" {}", "func:f("+want+", block)")
		hold(t, "func f"+s+" { return }", "func:f("+want+", block(return))")
		hold(t, "func new"+s+"{a;b;c}\n", "func:new("+want+", block(expr(id:a), expr(id:b), expr(id:c)))")
		hold(t, "func make "+s+" {\n\tmake\n}\n", "func:make("+want+", block(expr(id:make)))")
	}
	failsAt(t, "func ^", "func ^(a T) f() {}", "func ^1() {}", "func ^{}", "func ^func() {}", "func f^", "func f ^{}", "func f^;", "func f^\n() {}", "func f ^int", "func f^.g() {}",
		"func f(^", "func f(^{}", "func f(^;) {}", "func f(^,) {}", "func f(^1 int) {}", "func f(^*int) {}", "func f(^[]int) {}", "func f(^\"a\" int) {}", "func f(^var a int) {}",
		"func f(a^", "func f(a^) {}", "func f(a^, b int) {}", "func f(a^\nint) {}", "func f(a ^1) {}", "func f(a int^", "func f(a int^\n) {}", "func f(a int^; b int) {}", "func f(a int ^b int) {}", "func f(a int^\n, b int) {}",
		"func f(a int,^", "func f(a int,^) {}", "func f(a int,^, b int) {}", "func f(a int, b^) {}", "func f(a int, b^, c int) {}",
		"func f()^", "func f()^\n", "func f()^;", "func f()^\n{}", "func f() ^= {}", "func f() ^(int) {}", "func f() ^() {}", "func f() ^1 {}", "func f() ^return", "func f() int^", "func f() int^\n{}", "func f() int^, int {}", "func f() int ^int {}", "func f() *^{}", "func f() [^{}", "func f() []^{}", "func f() int^;",
		"func f() {^", "func f() {\n^", "func f() {}^}", "func f() {} ^{}", "func f() {} ^else {}")
}

func TestStructs(t *testing.T) {
	for s, want := range map[string]string{
		"{}":                        "",
		"{ ; }":                     "",
		"{;;\n;}":                   "",
		"{\n}":                      "",
		"{ a int }":                 "field:a(name:int)",
		"{ a int; }":                "field:a(name:int)",
		"{;a int;}":                 "field:a(name:int)",
		"{\n\ta int\n}":             "field:a(name:int)",
		"{\n\n\ta int\n\n\n}":       "field:a(name:int)",
		"{ a int; b *T }":           "field:a(name:int), field:b(star(name:T))",
		"{\n\ta int\n\tb []T\n}":    "field:a(name:int), field:b(slice(name:T))",
		"{;;a int;;;b T;;}":         "field:a(name:int), field:b(name:T)",
		"{ a int\n;\nb T\n;}":       "field:a(name:int), field:b(name:T)",
		"{ a a; a a; a T }":         "field:a(name:a), field:a(name:a), field:a(name:T)",
		"{ new make\n make new\n }": "field:new(name:make), field:make(name:new)",
		"{ // none\n\n// more\n}":   "",
	} {
		hold(t, "type T struct "+s, "type:T"+inBrackets(want))
		hold(t, "type new struct"+s+"\n", "type:new"+inBrackets(want))
	}
	failsAt(t, "type ^", "type ^1 struct {}", "type ^struct {}", "type T^", "type T^\n", "type T ^int", "type T ^{}", "type T ^= int", "type T ^*U", "type T struct^", "type T struct ^;", "type T struct\n^(", "type T struct ^a int",
		"type T struct {^", "type T struct {\n^", "type T struct {;^", "type T struct { ^1 int }", "type T struct { ^*T }", "type T struct { ^var a int }", "type T struct { ^, }", "type T struct { ^{} }", "type T struct { ^\"a\" }", "type T struct { ^) }",
		"type T struct { a ^}", "type T struct { a^; b int }", "type T struct { a^, b int }", "type T struct { a^\n}", "type T struct { a // of a^\nint }", "type T struct { a ^1 }", "type T struct { a ^struct {} }", "type T struct { a *^}",
		"type T struct { a int^", "type T struct { a int ^b int }", "type T struct { a int^, b int }", "type T struct { a int ^1 }", "type T struct { a int ^\"t\" }", "type T struct { a int;^", "type T struct { a int;^,}", "type T struct { a int; b ^}",
		"type T struct {} ^{}", "type T struct {}^}", "type T struct {}; ^T", "type T struct {} ^x")
	hold(t, "type T struct\n\n{}", "type:T") // behind `struct` no byte 10 is a Semi
}

func TestStatements(t *testing.T) {
	all := map[string]string{
		"var x int":                     "var:x(name:int)",
		"var x *[]T":                    "var:x(star(slice(name:T)))",
		"return":                        "return",
		"return 1":                      "return(num:1)",
		"return (x)":                    "return(id:x)",
		"return -x":                     "return(unary:-(id:x))",
		"return *x":                     "return(unary:*(id:x))",
		"return &x":                     "return(unary:&(id:x))",
		"return !x":                     "return(unary:!(id:x))",
		"return \"\"":                   "return(str:\"\")",
		"if a {}":                       "if(id:a, block)",
		"if a { b }":                    "if(id:a, block(expr(id:b)))",
		"for a {}":                      "for(id:a, block)",
		"for a < 1 { a; return 2 }":     "for(binary:<(id:a, num:1), block(expr(id:a), return(num:2)))",
		"for f() { for 1 { } }":         "for(call:f, block(for(num:1, block)))",
		"{}":                            "block",
		"{ a }":                         "block(expr(id:a))",
		"{{{}}}":                        "block(block(block))",
		"{ { a }; { b; c } }":           "block(block(expr(id:a)), block(expr(id:b), expr(id:c)))",
		"a":                             "expr(id:a)",
		"1":                             "expr(num:1)",
		"\"a\"":                         "expr(str:\"a\")",
		"f()":                           "expr(call:f)",
		"*a":                            "expr(unary:*(id:a))",
		"a + b":                         "expr(binary:+(id:a, id:b))",
		"a == b":                        "expr(binary:==(id:a, id:b))",
		"a = b":                         "assign(id:a, id:b)",
		"a=b":                           "assign(id:a, id:b)",
		"a := b":                        "define(id:a, id:b)",
		"a:=b":                          "define(id:a, id:b)",
		"1 = 2":                         "assign(num:1, num:2)",
		"\"a\" := \"b\"":                "define(str:\"a\", str:\"b\")",
		"*a = *b":                       "assign(unary:*(id:a), unary:*(id:b))",
		"(a) = (b)":                     "assign(id:a, id:b)",
		"a + b = c + d":                 "assign(binary:+(id:a, id:b), binary:+(id:c, id:d))",
		"a == b = c == d":               "assign(binary:==(id:a, id:b), binary:==(id:c, id:d))",
		"a && b := c || d":              "define(binary:&&(id:a, id:b), binary:||(id:c, id:d))",
		"a.b[0] = f(1)":                 "assign(index(field:b(id:a), num:0), call:f(num:1))",
		"f(a)[b] := new(T)":             "define(index(call:f(id:a), id:b), new(name:T))",
		"if a {} else {}":               "if(id:a, block, block)",
		"if a { b = c } else { d = e }": "if(id:a, block(assign(id:b, id:c)), block(assign(id:d, id:e)))",
	}
	for s, want := range all {
		holdBody(t, s, want)
		holdBody(t, s+";", want)
		holdBody(t, s+"\n", want)
		holdBody(t, ";"+s, want)
		holdBody(t, "\n\n"+s+"\n\n;", want)
		holdBody(t, "{"+s+"}", "block("+want+")")
		holdBody(t, "if a {"+s+"} else {"+s+"}", "if(id:a, block("+want+"), block("+want+"))")
		holdBody(t, "for a {"+s+"}", "for(id:a, block("+want+"))")
		for other, also := range all {
			holdBody(t, s+"; "+other, want+", "+also)
			holdBody(t, s+"\n"+other+"\n"+s+"\n", want+", "+also+", "+want)
		}
	}
	holdBody(t, "", "")
}

func TestWrongStatements(t *testing.T) {
	failsInBody(t, "^func", "^func g() {}", "^type T struct {}", "^struct", "^else", "^)", "^]", "^,", "^.", "^=", "^:=", "^+", "^<", "^&&", "^||", "^==", "^%", "^/ a", "^@", "^:", "^|", "a; ^else {}",
		"var ^", "var ^1 int", "var x^", "var x^; y", "var x ^= 1", "var x int ^= 1", "var x int ^var y int", "var x int^, y int", "var x [^1]int",
		"return ^=", "return ^)", "return ^,", "return ^+ a", "return ^return", "return ^var x int", "return ^if a {}", "return ^{}", "return ^else", "return a ^b", "return a^, b", "return a ^= b", "return a ^:= b", "return a ^return", "return a ^{}",
		"if ^", "if ^{}", "if ^; a {}", "if\n^{}", "if ^if a {}", "if ^var x int {}", "if a^", "if a^; b {}", "if a^\n{}", "if a ^= b {}", "if a ^:= b {}", "if a ^b {}", "if a ^else {}", "if a^, b {}", "if a {} ^b", "if a {} ^{}", "if a {} ^if b {}", "if a {} ^return",
		"for ^", "for ^{}", "for ^; a; b {}", "for a^", "for a^; b; c {}", "for a ^= b {}", "for a ^:= b {}", "for a^\n{}", "for a {} ^else {}", "for a {} ^b", "for a ^for b {}",
		"{} ^{}", "{} ^a", "{ ^) }", "{ a ^b }", "{ a^, b }", "{ ^] }",
		"a ^b", "a ^1", "a ^\"b\"", "a ^{}", "a ^if b {}", "a ^return", "a ^var x int", "a^, b = c, d", "a ^! b", "a ^& b", "a ^:", "1^(b)", "a = ^", "a := ^", "a = ^= b", "a = ^{}", "a = b ^= c", "a = b ^:= c", "a := b ^= c", "a := b ^:= c", "a = b ^c", "a = b^, c", "a ^: b", "a ^| b", "a^: = b", "a = ^var", "a = ^if b {}")
}

// TestNoEnd has texts that end within a statement, or ahead of a block's end.
func TestNoEnd(t *testing.T) {
	for _, s := range []string{"var", "var x", "var x *", "var x int", "return", "return ", "return a", "return a +", "return (", "return f(", "if", "if a", "if a {", "if a {\n", "if a {}", "if a {} else", "if a {} else if", "if a {} else {", "if a {} else {}",
		"for", "for a", "for a {", "for a {}", "{", "{}", "{ a", "{ a; ", "a", "a ", "a + ", "a =", "a :=", "a = b", "a;", "-", "(", "(a", "(a)", "a.", "a.b", "a[", "a[b", "a[b]", "f(", "f(a", "f(a,", "f(a, b", "f(a)", "new(", "new(T", "new(T)", "make(T", "make(T,", "make(T, a", "make(T, a)", "\n", ";", " // }", "\t\r"} {
		text := "func f() {" + s
		fails(t, text, len(text))
		fails(t, text+" ", len(text)+1)
		fails(t, text+" // }", len(text)+5)
	}
}

func TestElse(t *testing.T) {
	holdBody(t, "if a {} else if b {}", "if(id:a, block, if(id:b, block))")
	holdBody(t, "if a {} else if b {} else {}", "if(id:a, block, if(id:b, block, block))")
	holdBody(t, "if a {} else if b {} else if c { d } else { e }", "if(id:a, block, if(id:b, block, if(id:c, block(expr(id:d)), block(expr(id:e)))))")
	holdBody(t, "if a { if b {} } else {}", "if(id:a, block(if(id:b, block)), block)")
	holdBody(t, "if a { if b {} else {} }", "if(id:a, block(if(id:b, block, block)))")
	holdBody(t, "if a {} else { if b {} else {} }", "if(id:a, block, block(if(id:b, block, block)))")
	holdBody(t, "if a {} else if b {}; if c {} else {}", "if(id:a, block, if(id:b, block)), if(id:c, block, block)")
	holdBody(t, "if a {\n} else\n\nif b {\n} else\n{\n}", "if(id:a, block, if(id:b, block, block))") // behind `else` no byte 10 is a Semi
	failsInBody(t, "if a {} else ^", "if a {} else ^b", "if a {} else ^;", "if a {} else ^else {}", "if a {} else ^for b {}", "if a {} else ^return", "if a {} else {} ^else {}", "if a {} else {} ^if b {}", "if a {} else if ^", "if a {} else if ^{}", "if a {} else if b ^else {}",
		"if a {}\n^else {}", "if a {}; ^else {}", "if a {} else {}\n^else {}", "if a {} else ^(b) {}", "if a {} else if b {}; ^else {}", "^else if a {}")
}
