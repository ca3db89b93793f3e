package parse_test

import (
	"strings"
	"testing"

	"bolthole/api"
)

// cut tells where a part stands by the bytes of the text that stand there, one behind the other with those of all that it has.
func cut(s string, p api.Part) string {
	l := []string{p.Kind + " `" + s[p.From:p.To] + "`"}
	for _, k := range p.Kids {
		l = append(l, cut(s, k))
	}
	return strings.Join(l, "\n")
}

// holdCuts holds what stands where a declaration's parts do against what should, part by part.
func holdCuts(t *testing.T, s string, want ...string) {
	t.Helper()
	if got := cut(s, part(t, s)); got != strings.Join(want, "\n") {
		t.Errorf("Decl(%q):\n%s\nnot:\n%s", s, got, strings.Join(want, "\n"))
	}
}

func TestPlaces(t *testing.T) {
	holdPlaces(t, "var x int", "var:x 0 9(name:int 6 9)")
	holdPlaces(t, " var  x \t* [ ] int  ;\n", "var:x 1 18(star 9 18(slice 11 18(name:int 15 18)))")
	holdPlaces(t, "// x\nvar x int // of x\n\n;", "var:x 5 14(name:int 11 14)")
	holdPlaces(t, "type T struct{}", "type:T 0 15")
	holdPlaces(t, "type T struct { ; a int;\n\tb *T ; } ;", "type:T 0 34(field:a 18 23(name:int 20 23), field:b 26 30(star 28 30(name:T 29 30)))")
	holdPlaces(t, "func f(){}", "func:f 0 10(params 0 0, result 0 0, block 8 10)")
	holdPlaces(t, "  func f ( ) { } ", "func:f 2 16(params 0 0, result 0 0, block 13 16)")
	holdPlaces(t, "func f(a int) int {}", "func:f 0 20(params 7 12(param:a 7 12(name:int 9 12)), result 14 17(name:int 14 17), block 18 20)")
	holdPlaces(t, "func f( a  int , b\t*T ) []T{\n}\n", "func:f 0 30(params 8 21(param:a 8 14(name:int 11 14), param:b 17 21(star 19 21(name:T 20 21))), result 24 27(slice 24 27(name:T 26 27)), block 27 30)")
	holdPlaces(t, "func f(){return}", "func:f 0 16(params 0 0, result 0 0, block 8 16(return 9 15))")
	holdPlaces(t, "func f(){\n\ta := b \n}", "func:f 0 20(params 0 0, result 0 0, block 8 20(define 11 17(id:a 11 12, id:b 16 17)))")
}

// inBody holds a statement's places against what they should be.
func inBody(t *testing.T, s string, want ...string) {
	t.Helper()
	for _, about := range []string{" ", "\n", ";", "\n\t;", " // c\n"} {
		block := "{" + about + s + about + "}"
		text := "func f() " + block
		holdCuts(t, text, append([]string{"func `" + text + "`", "params ``", "result ``", "block `" + block + "`"}, want...)...)
	}
}

func TestPlacesOfStatements(t *testing.T) {
	inBody(t, "var  x  *T", "var `var  x  *T`", "star `*T`", "name `T`")
	inBody(t, "return", "return `return`")
	inBody(t, "return  x", "return `return  x`", "id `x`")
	inBody(t, "return (x )", "return `return (x )`", "id `x`")
	inBody(t, "if a { }", "if `if a { }`", "id `a`", "block `{ }`")
	inBody(t, "if (a) {\n} else { }", "if `if (a) {\n} else { }`", "id `a`", "block `{\n}`", "block `{ }`")
	inBody(t, "if a {} else if b { c } else {;}", "if `if a {} else if b { c } else {;}`", "id `a`", "block `{}`",
		"if `if b { c } else {;}`", "id `b`", "block `{ c }`", "expr `c`", "id `c`", "block `{;}`")
	inBody(t, "for a  { ; }", "for `for a  { ; }`", "id `a`", "block `{ ; }`")
	inBody(t, "{ {} }", "block `{ {} }`", "block `{}`")
	inBody(t, "a", "expr `a`", "id `a`")
	inBody(t, "a ; b", "expr `a`", "id `a`", "expr `b`", "id `b`")
	inBody(t, "a  =  b", "assign `a  =  b`", "id `a`", "id `b`")
	inBody(t, "(a) = ((b))", "assign `(a) = ((b))`", "id `a`", "id `b`")
	inBody(t, "( a.b ) := -(c)", "define `( a.b ) := -(c)`", "field `a.b`", "id `a`", "unary `-(c)`", "id `c`")
}

func TestPlacesOfExpressions(t *testing.T) {
	inBody(t, "( ( a ) )", "expr `( ( a ) )`", "id `a`")
	inBody(t, "(a + b)", "expr `(a + b)`", "binary `a + b`", "id `a`", "id `b`")
	inBody(t, "((a) + (b))", "expr `((a) + (b))`", "binary `(a) + (b)`", "id `a`", "id `b`")
	inBody(t, "(a) + b * (c) - d", "expr `(a) + b * (c) - d`", "binary `(a) + b * (c) - d`", "binary `(a) + b * (c)`", "id `a`", "binary `b * (c)`", "id `b`", "id `c`", "id `d`")
	inBody(t, "((a - b)) - ((c - d))", "expr `((a - b)) - ((c - d))`", "binary `((a - b)) - ((c - d))`", "binary `a - b`", "id `a`", "id `b`", "binary `c - d`", "id `c`", "id `d`")
	inBody(t, "a * (b + (c))", "expr `a * (b + (c))`", "binary `a * (b + (c))`", "id `a`", "binary `b + (c)`", "id `b`", "id `c`")
	inBody(t, "- ( - ( a ) )", "expr `- ( - ( a ) )`", "unary `- ( - ( a ) )`", "unary `- ( a )`", "id `a`")
	inBody(t, "-(a).b", "expr `-(a).b`", "unary `-(a).b`", "field `(a).b`", "id `a`")
	inBody(t, "(-a).b", "expr `(-a).b`", "field `(-a).b`", "unary `-a`", "id `a`")
	inBody(t, "((a).b).c", "expr `((a).b).c`", "field `((a).b).c`", "field `(a).b`", "id `a`")
	inBody(t, "((a)[(b)])[c ]", "expr `((a)[(b)])[c ]`", "index `((a)[(b)])[c ]`", "index `(a)[(b)]`", "id `a`", "id `b`", "id `c`")
	inBody(t, "f ( (a) , b )", "expr `f ( (a) , b )`", "call `f ( (a) , b )`", "id `a`", "id `b`")
	inBody(t, "(f( )). x", "expr `(f( )). x`", "field `(f( )). x`", "call `f( )`")
	inBody(t, "new( *T ) ", "expr `new( *T )`", "new `new( *T )`", "star `*T`", "name `T`")
	inBody(t, "make ([]T, (1) )", "expr `make ([]T, (1) )`", "make `make ([]T, (1) )`", "slice `[]T`", "name `T`", "num `1`")
	inBody(t, "f((a) + b)[(c)].d % \"s\"", "expr `f((a) + b)[(c)].d % \"s\"`", "binary `f((a) + b)[(c)].d % \"s\"`", "field `f((a) + b)[(c)].d`", "index `f((a) + b)[(c)]`",
		"call `f((a) + b)`", "binary `(a) + b`", "id `a`", "id `b`", "id `c`", "str `\"s\"`")
	inBody(t, "a == (b) && (c)", "expr `a == (b) && (c)`", "binary `a == (b) && (c)`", "binary `a == (b)`", "id `a`", "id `b`", "id `c`")
}

func TestSemis(t *testing.T) {
	for _, semi := range []string{";", "\n", ";;", "\n\n", " ; \n ; ", "\r\n", "// c\n", ";// c\n;\n"} {
		for _, behind := range []string{"", semi} {
			hold(t, "var x T"+behind, "var:x(name:T)")
			hold(t, "type T struct{}"+behind, "type:T")
			hold(t, "func f(){}"+behind, "func:f(params, result, block)")
			hold(t, "type T struct{"+behind+"}", "type:T")
			hold(t, "type T struct{"+behind+"a T"+semi+"b T"+behind+"}", "type:T(field:a(name:T), field:b(name:T))")
			holdBody(t, behind, "")
			holdBody(t, behind+"a"+semi+"b"+behind, "expr(id:a), expr(id:b)")
			holdBody(t, behind+"var a T"+semi+"return"+semi+"if a {}"+semi+"{}"+behind, "var:a(name:T), return, if(id:a, block), block")
			holdBody(t, behind+"return"+semi+"a"+behind, "return, expr(id:a)")
		}
	}
	// Behind these words a byte 10 is none.
	hold(t, "func\nf(\na T,\nb *\nT){\n}", "func:f(params(param:a(name:T), param:b(star(name:T))), result, block)")
	hold(t, "var\n\nx *\n[\n]T", "var:x(star(slice(name:T)))")
	hold(t, "type\nT struct\n\n{\n}", "type:T")
	holdBody(t, "var\nx T; if\na {\n} else\n{\n}; for\na {}; a =\nb +\n-\nc.\nd[\nf(\n)]", "var:x(name:T), if(id:a, block, block), for(id:a, block), assign(id:a, binary:+(id:b, unary:-(index(field:d(id:c), call:f))))")
	failsAt(t, "^;", "^; var x T", "var ^; x T", "var x^\nT", "func f(^;) {}", "func f(a T^\n) {}", "func f()^\n{}", "func f() T^\n{}", "func f^\n() {}", "type T^\nstruct {}", "type T struct ^; {}", "var x []^\nT", "var x *^;T", "type T struct { a^\nT }", "var x T; ^var y T", "var x T\n^var y T", "var x T\n\n^}", "func f() {}\n^func g() {}")
	failsInBody(t, "f(a^\n)", "f(a, b^\n, c)", "a[b^\n]", "(a^\n)", "if a^\n{}", "for a^\n{}", "if a {}\n^else {}", "return\n^= a", "a\n^= b", "a\n^+ b", "new(T^\n)", "make(T^\n, a)", "var x^\nT")
}
