package parse_test

import "testing"

// between are the marks between two, with the strength that each has.
var between = map[string]int{"||": 1, "&&": 2, "==": 3, "!=": 3, "<": 3, "<=": 3, ">": 3, ">=": 3, "+": 4, "-": 4, "*": 5, "/": 5, "%": 5}

// ahead are the marks ahead of one.
var ahead = []string{"&", "*", "-", "!"}

func TestOperands(t *testing.T) {
	for s, want := range map[string]string{
		"0": "num:0", "007": "num:007", "a": "id:a", "_": "id:_", "a_1": "id:a_1", "nil": "id:nil", "true": "id:true",
		`""`: `str:""`, `"a b"`: `str:"a b"`, `"(" `: `str:"("`, `"//"`: `str:"//"`, `"new"`: `str:"new"`, `"+"`: `str:"+"`, "\"\u05d0\"": "str:\"\u05d0\"", "\"\xff\"": "str:\"\xff\"",
	} {
		holdExpr(t, s, want)
	}
}

func TestMarksBetween(t *testing.T) {
	for m := range between {
		holdExpr(t, "a "+m+" b", "binary:"+m+"(id:a, id:b)")
		holdExpr(t, "a"+m+"b", "binary:"+m+"(id:a, id:b)")
		holdExpr(t, "a "+m+"\n\nb", "binary:"+m+"(id:a, id:b)") // behind a mark no byte 10 is a Semi
		failsInBody(t, "a "+m+" ^", "a "+m+" ^;", "a "+m+" ^= b", "a "+m+" ^:= b", "a "+m+" ^{}", "("+"a "+m+" ^)", "x[a "+m+" ^]", "f(a "+m+" ^, b)", "a "+m+" ^var", "a "+m+" b ^c", "a "+m+" ^/ b", "a "+m+" ^== b")
		if m == "*" || m == "-" { // those may stand ahead of one, too
			holdBody(t, "a\n"+m+" b", "expr(id:a), expr(unary:"+m+"(id:b))")
		} else {
			failsInBody(t, "a\n^"+m+" b", "^"+m, "^"+m+" a", "(^"+m+" a)", "a "+m+" ^"+m+" b", "f(^"+m+")", "-^"+m+"a", "return ^"+m+" a")
		}
	}
	failsInBody(t, "a ^! b", "a ^& b", "a ^| b", "a ^: b", "a ^~ b", "a^, b", "a ^b", "a < ^< b", "a = ^= b", "a >^> b", "a && ^|| b", "a ^! = b", "a ^| | b", "a ^& & b")
}

// TestTwoMarks has each behind each: of one strength, or weaker, the second one holds more; stronger, the first one does.
func TestTwoMarks(t *testing.T) {
	for m, strong := range between {
		for n, also := range between {
			leftHeld := "binary:" + n + "(binary:" + m + "(id:a, id:b), id:c)"
			rightHeld := "binary:" + m + "(id:a, binary:" + n + "(id:b, id:c))"
			want := leftHeld
			if also > strong {
				want = rightHeld
			}
			holdExpr(t, "a "+m+" b "+n+" c", want)
			holdExpr(t, "(a "+m+" b) "+n+" c", leftHeld)
			holdExpr(t, "a "+m+" (b "+n+" c)", rightHeld)
			holdExpr(t, "(a "+m+" b "+n+" c)", want)
			holdExpr(t, "((a) "+m+" (b) "+n+" (c))", want)
			holdExpr(t, "(((a) "+m+" ((b)))) "+n+" ((c))", leftHeld)
			for _, u := range ahead {
				holdExpr(t, u+"a "+m+" "+u+"b "+n+" "+u+"c", unaries(want, u))
			}
		}
	}
}

// unaries puts a mark ahead of each name of a part that is told.
func unaries(s, u string) string {
	told := ""
	for i := 0; i < len(s); i++ {
		if i+4 <= len(s) && s[i:i+3] == "id:" {
			told += "unary:" + u + "(" + s[i:i+4] + ")"
			i += 3
			continue
		}
		told += s[i : i+1]
	}
	return told
}

func TestManyMarks(t *testing.T) {
	for s, want := range map[string]string{
		"a + b + c + d":            "binary:+(binary:+(binary:+(id:a, id:b), id:c), id:d)",
		"a * b * c * d":            "binary:*(binary:*(binary:*(id:a, id:b), id:c), id:d)",
		"a || b && c == d":         "binary:||(id:a, binary:&&(id:b, binary:==(id:c, id:d)))",
		"a == b && c || d":         "binary:||(binary:&&(binary:==(id:a, id:b), id:c), id:d)",
		"a + b * c - d":            "binary:-(binary:+(id:a, binary:*(id:b, id:c)), id:d)",
		"a * b + c * d":            "binary:+(binary:*(id:a, id:b), binary:*(id:c, id:d))",
		"a < b + c * d":            "binary:<(id:a, binary:+(id:b, binary:*(id:c, id:d)))",
		"a || b || c && d && e":    "binary:||(binary:||(id:a, id:b), binary:&&(binary:&&(id:c, id:d), id:e))",
		"a * (b + c) * d":          "binary:*(binary:*(id:a, binary:+(id:b, id:c)), id:d)",
		"(a || b) && (c || d)":     "binary:&&(binary:||(id:a, id:b), binary:||(id:c, id:d))",
		"a - (b - (c - d))":        "binary:-(id:a, binary:-(id:b, binary:-(id:c, id:d)))",
		"((a - b) - c) - d":        "binary:-(binary:-(binary:-(id:a, id:b), id:c), id:d)",
		"a % b[c + d] * e":         "binary:*(binary:%(id:a, index(id:b, binary:+(id:c, id:d))), id:e)",
		"a * f(b + c, d) + e":      "binary:+(binary:*(id:a, call:f(binary:+(id:b, id:c), id:d)), id:e)",
		"a * make(T, b + c) + e":   "binary:+(binary:*(id:a, make(name:T, binary:+(id:b, id:c))), id:e)",
		"a * new(*T) + e":          "binary:+(binary:*(id:a, new(star(name:T))), id:e)",
		"a + b == c + d && e":      "binary:&&(binary:==(binary:+(id:a, id:b), binary:+(id:c, id:d)), id:e)",
		"1 + 2 * 3 == 7 && x || y": "binary:||(binary:&&(binary:==(binary:+(num:1, binary:*(num:2, num:3)), num:7), id:x), id:y)",
	} {
		holdExpr(t, s, want)
	}
}

func TestBrackets(t *testing.T) {
	for _, s := range []string{"(a)", "((a))", "( ( (a ) ) )", "(\n(\na))"} {
		holdExpr(t, s, "id:a")
		holdExpr(t, "-"+s, "unary:-(id:a)")
		holdExpr(t, s+".b", "field:b(id:a)")
		holdExpr(t, s+"[b]", "index(id:a, id:b)")
		holdExpr(t, "b["+s+"]", "index(id:b, id:a)")
		holdExpr(t, "f("+s+")", "call:f(id:a)")
		holdExpr(t, s+" - "+s, "binary:-(id:a, id:a)")
	}
	holdExpr(t, "(-a)", "unary:-(id:a)")
	holdExpr(t, "(-a).b", "field:b(unary:-(id:a))")
	holdExpr(t, "(-a)[b]", "index(unary:-(id:a), id:b)")
	holdExpr(t, "-(a + b)", "unary:-(binary:+(id:a, id:b))")
	holdExpr(t, "-(a) + b", "binary:+(unary:-(id:a), id:b)")
	holdExpr(t, "(a + b).c", "field:c(binary:+(id:a, id:b))")
	holdExpr(t, "(a + b)[c]", "index(binary:+(id:a, id:b), id:c)")
	failsInBody(t, "(^)", "(^", "((^))", "(a^;)", "(a^\n)", "(a^, b)", "(a ^= b)", "(a ^:= b)", "(a ^b)", "(a^]", "(^var x T)", "(^return)", "(^{})", "(a)^)", "((a)^;", "(a)^(b)", "(a) ^b", "(a) ^1", "(^[]T)")
}

func TestMarksAhead(t *testing.T) {
	for _, m := range ahead {
		holdExpr(t, m+"a", "unary:"+m+"(id:a)")
		holdExpr(t, m+" 1", "unary:"+m+"(num:1)")
		holdExpr(t, m+"\n\"\"", "unary:"+m+"(str:\"\")")
		holdExpr(t, m+"f(a)", "unary:"+m+"(call:f(id:a))")
		holdExpr(t, m+"new(T)", "unary:"+m+"(new(name:T))")
		holdExpr(t, m+"a.b[c].d", "unary:"+m+"(field:d(index(field:b(id:a), id:c)))")
		holdExpr(t, "("+m+"a).b", "field:b(unary:"+m+"(id:a))")
		failsInBody(t, m+"^", m+"^;", m+"^)", m+" ^= a", "("+m+"^)", m+"^return", m+"^{}", m+"^[]T", m+"a ^b", m+"a ^! b")
		for _, n := range ahead {
			holdExpr(t, m+" "+n+" a", "unary:"+m+"(unary:"+n+"(id:a))")
			holdExpr(t, m+"("+n+"(a))", "unary:"+m+"(unary:"+n+"(id:a))")
			holdExpr(t, m+" "+n+" "+m+" "+n+"a.b", "unary:"+m+"(unary:"+n+"(unary:"+m+"(unary:"+n+"(field:b(id:a)))))")
			for o := range between {
				holdExpr(t, m+"a "+o+" "+n+"b", "binary:"+o+"(unary:"+m+"(id:a), unary:"+n+"(id:b))")
			}
		}
	}
	holdExpr(t, "a - -b", "binary:-(id:a, unary:-(id:b))")
	holdExpr(t, "a--b", "binary:-(id:a, unary:-(id:b))")
	holdExpr(t, "a**b", "binary:*(id:a, unary:*(id:b))")
	holdExpr(t, "a&&&b", "binary:&&(id:a, unary:&(id:b))")
	holdExpr(t, "a&& & &b", "binary:&&(id:a, unary:&(unary:&(id:b)))")
	holdExpr(t, "!!a", "unary:!(unary:!(id:a))")
	failsInBody(t, "^&&a", "^+a", "^/a", "^%a", "! ^=a", "^!=a", "-^+a", "a ^& &b", "a ^!b")
}

func TestBehind(t *testing.T) {
	for s, want := range map[string]string{
		"a.b":             "field:b(id:a)",
		"a.b.c":           "field:c(field:b(id:a))",
		"a . new.make":    "field:make(field:new(id:a))",
		"a.\nb":           "field:b(id:a)",
		"a[0]":            "index(id:a, num:0)",
		"a[b][c]":         "index(index(id:a, id:b), id:c)",
		"a[b[c]]":         "index(id:a, index(id:b, id:c))",
		"a[b + c]":        "index(id:a, binary:+(id:b, id:c))",
		"a[-b]":           "index(id:a, unary:-(id:b))",
		"a[(b)]":          "index(id:a, id:b)",
		"a[\nb]":          "index(id:a, id:b)",
		"a.b[c].d[e]":     "index(field:d(index(field:b(id:a), id:c)), id:e)",
		"f().a":           "field:a(call:f)",
		"f(a)[b]":         "index(call:f(id:a), id:b)",
		"f(g(a)[b]).c[d]": "index(field:c(call:f(index(call:g(id:a), id:b))), id:d)",
		"new(T).a":        "field:a(new(name:T))",
		"make(T, a)[b]":   "index(make(name:T, id:a), id:b)",
		"1.a":             "field:a(num:1)",
		"1[2]":            "index(num:1, num:2)",
		"\"a\".b":         "field:b(str:\"a\")",
		"\"a\"[0]":        "index(str:\"a\", num:0)",
		"(a).b":           "field:b(id:a)",
		"(a)[b]":          "index(id:a, id:b)",
		"a.b + c[d]":      "binary:+(field:b(id:a), index(id:c, id:d))",
		"a + b.c[d] * e":  "binary:+(id:a, binary:*(index(field:c(id:b), id:d), id:e))",
	} {
		holdExpr(t, s, want)
	}
	failsInBody(t, "a.^", "a.^1", "a.^(b)", "a.^\"b\"", "a.^if", "a.^.b", "a.^[b]", "a.^*b", "a\n^.b", "^.a", "a.b.^", "a.b ^c", "a.^;",
		"a[^]", "a[^", "a[^][b]", "a[b^", "a[b^, c]", "a[b^;]", "a[b^\n]", "a[b^)", "a[b ^: c]", "a[b ^= c]", "a[^[]T]", "a[b]^]", "^[a]", "^[]a", "a[b] ^c",
		"a.b^(c)", "a[b]^(c)", "f(a)^(b)", "1^(a)", "\"f\"^(a)", "(f)^(a)", "new(T)^(a)", "a.new^(T)", "a.make^(T, b)", "f(a) ^b")
}

func TestCalls(t *testing.T) {
	for s, want := range map[string]string{
		"f()":              "call:f",
		"f ( )":            "call:f",
		"f(\n)":            "call:f",
		"f(a)":             "call:f(id:a)",
		"f(a, b)":          "call:f(id:a, id:b)",
		"f(a,\nb,\n\nc)":   "call:f(id:a, id:b, id:c)",
		"f((a))":           "call:f(id:a)",
		"f((a), (b))":      "call:f(id:a, id:b)",
		"f(f)":             "call:f(id:f)",
		"f(f())":           "call:f(call:f)",
		"f(g(a, b), h(c))": "call:f(call:g(id:a, id:b), call:h(id:c))",
		"f(a + b, -c, *d)": "call:f(binary:+(id:a, id:b), unary:-(id:c), unary:*(id:d))",
		"f(new(T), new)":   "call:f(new(name:T), id:new)",
		"news(T)":          "call:news(id:T)",
		"New(T)":           "call:New(id:T)",
		"makes(T, 1, 2)":   "call:makes(id:T, num:1, num:2)",
	} {
		holdExpr(t, s, want)
	}
	failsInBody(t, "f(^", "f(^,)", "f(^;)", "f(a^", "f(a,^", "f(a,^)", "f(a,^,b)", "f(a ^b)", "f(a^;b)", "f(a^\n)", "f(a,b^\n)", "f(a ^= b)", "f(a ^:= b)", "f(^var a T)", "f(^[]T)", "f(^{})", "f(^return a)", "f(^])", "f(a^]", "f()^)", "f()^()", "f ^{}", "f\n(^)", "f(a)^(b)", "f(^if a {})")
}

func TestNewAndMake(t *testing.T) {
	for s, want := range map[string]string{
		"new(T)":                    "new(name:T)",
		"new ( T )":                 "new(name:T)",
		"new(\nT)":                  "new(name:T)",
		"new(**[]T)":                "new(star(star(slice(name:T))))",
		"new(new)":                  "new(name:new)",
		"new(make)":                 "new(name:make)",
		"make(T, a)":                "make(name:T, id:a)",
		"make([]*T,\na + 1)":        "make(slice(star(name:T)), binary:+(id:a, num:1))",
		"make(new, make)":           "make(name:new, id:make)",
		"make(T, make(T, new(T)))":  "make(name:T, make(name:T, new(name:T)))",
		"new":                       "id:new",
		"make":                      "id:make",
		"(new)":                     "id:new",
		"new.make":                  "field:make(id:new)",
		"make.new":                  "field:new(id:make)",
		"new[make]":                 "index(id:new, id:make)",
		"new + make":                "binary:+(id:new, id:make)",
		"*new":                      "unary:*(id:new)",
		"&make":                     "unary:&(id:make)",
		"f(new, make)":              "call:f(id:new, id:make)",
		"new(T).a + make(T, 1)[0]":  "binary:+(field:a(new(name:T)), index(make(name:T, num:1), num:0))",
		"make(T, a || b && c == d)": "make(name:T, binary:||(id:a, binary:&&(id:b, binary:==(id:c, id:d))))",
	} {
		holdExpr(t, s, want)
	}
	holdBody(t, "new := make; make = new", "define(id:new, id:make), assign(id:make, id:new)")
	holdBody(t, "var new T; var make new", "var:new(name:T), var:make(name:new)")
	failsInBody(t, "new(^)", "new(^", "new(^1)", "new(^\"T\")", "new(^(T))", "new(^-T)", "new(^&T)", "new(T^", "new(T^, a)", "new(T^\n)", "new(T^;)", "new(T^.a)", "new(T ^* a)", "new(T^(a))", "new(T^[0])", "new(*^)", "new([^1]T)", "new([]^)", "new(^, T)", "new(T)^(T)", "new(^{})", "new(^struct)", "new ^{}", "new\n(^)",
		"make(^)", "make(^", "make(^, a)", "make(T^", "make(T^)", "make(T^;a)", "make(T ^a)", "make(T,^", "make(T,^)", "make(T,^, a)", "make(T, a^", "make(T, a^, b)", "make(T, a^,)", "make(T, a^\n)", "make(T, a ^b)", "make(T, ^[]T)", "make(^1, 2)", "make(^-T, 2)", "make(T^.a, 2)", "make(T^(a), 2)", "make(T, a ^= b)", "make(T^[0], 2)", "make([^0]T, 2)", "make(T ^+ a, 2)")
}
