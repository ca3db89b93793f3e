package unit_test

import (
	"strings"
	"testing"

	"bolthole/api"
	"bolthole/unit"
)

// Declarations, and pieces that are wrong ones.
const (
	varA   = "var a int\n"
	varB   = "var b T\n"
	funcC  = "func c() {\n\treturn\n}\n"
	typeD  = "type D struct {\n\tx int\n}\n"
	wrongF = "func f() { x y }\n" // at 13
	wrongV = "var\n"              // at 4
)

// The makers of parts, and of declarations.

func part(kind, text string, from, to int, kids ...api.Part) api.Part {
	return api.Part{Kind: kind, Text: text, From: from, To: to, Kids: kids}
}

func right(from int, text string, p api.Part) unit.Decl {
	return unit.Decl{From: from, To: from + len(text), Text: text, Part: p}
}

func wrong(from int, text string, at int, e api.Errno) unit.Decl {
	return unit.Decl{From: from, To: from + len(text), Text: text, At: at, E: e}
}

func partA() api.Part { return part("var", "a", 0, 9, part("name", "int", 6, 9)) }
func partB() api.Part { return part("var", "b", 0, 7, part("name", "T", 6, 7)) }
func partC() api.Part {
	return part("func", "c", 0, 20, part("params", "", 0, 0), part("result", "", 0, 0), part("block", "", 9, 20, part("return", "", 12, 18)))
}
func partD() api.Part {
	return part("type", "D", 0, 24, part("field", "x", 17, 22, part("name", "int", 19, 22)))
}

// junk is where junk stands.
func junk(l ...[2]int) [][2]int { return l }

// hold holds what a new unit tells, and one read again of nothing, of others and of itself, against what it should tell.
func hold(t *testing.T, s string, places [][2]int, want ...unit.Decl) {
	t.Helper()
	u := unit.New(s)
	if u.Text() != s || u.Kept() != 0 {
		t.Errorf("%q: Text: %q, Kept: %d", s, u.Text(), u.Kept())
	}
	var none *unit.Unit
	other := unit.New("x\nvar x int\n" + varA + wrongF + varB)
	for i, v := range []*unit.Unit{u, none.Again(s), u.Again(s), unit.New("").Again(s), other.Again(s), u.Again(other.Text()).Again(s)} {
		if got := v.Decls(); tell(got) != tell(want) {
			t.Errorf("%q, %d: Decls:\n%snot\n%s", s, i, tell(got), tell(want))
		}
		if got := v.Junk(); !sameJunk(got, places) {
			t.Errorf("%q, %d: Junk: %v, not %v", s, i, got, places)
		}
	}
	holdUnit(t, u, s, 0)
}

func TestNone(t *testing.T) {
	for _, s := range []string{"", " ", "\n", "\n\n\n", "\t\r\n", "// c", "// c\n\n// var a int\n", "//var a int\n", "\n//\xff\n"} {
		hold(t, s, nil)
	}
	for _, s := range []string{
		"x", "x\n", " var a int\n", "\tfunc f() {}", "variable int\n", "x := 1\n// c\n", "package p\n\nimport \"q\"\n", "}\n", "\"var\"\n", "struct\n", "\xff", "\u05d0\n", "x var\n\n",
		"func1() {}\n", "type_ T\n", "vara\n", "Var a int\n", "; var a int\n",
	} {
		hold(t, s, junk([2]int{0, len(s)}))
	}
}

func TestOneOfEachKind(t *testing.T) {
	hold(t, varA, nil, right(0, varA, partA()))
	hold(t, varB, nil, right(0, varB, partB()))
	hold(t, funcC, nil, right(0, funcC, partC()))
	hold(t, typeD, nil, right(0, typeD, partD()))
	hold(t, "var a int", nil, right(0, "var a int", partA()))
	hold(t, "var a int;", nil, right(0, "var a int;", partA()))
	const f = "func g(p *T) []int { return p.x[0] }"
	hold(t, f, nil, right(0, f, part("func", "g", 0, 36,
		part("params", "", 7, 11, part("param", "p", 7, 11, part("star", "", 9, 11, part("name", "T", 10, 11)))),
		part("result", "", 13, 18, part("slice", "", 13, 18, part("name", "int", 15, 18))),
		part("block", "", 19, 36, part("return", "", 21, 34, part("index", "", 28, 34, part("field", "x", 28, 31, part("id", "p", 28, 29)), part("num", "0", 32, 33)))))))
}

// TestAbout has blanks, comments, empty lines and junk ahead of a declaration, between two and behind.
func TestAbout(t *testing.T) {
	for _, ahead := range []string{"\n", "\n\n\n", "// of a\n", " \t\r\n", "\n// of a\n\n// var b T\n"} {
		n := len(ahead)
		hold(t, ahead+varA, nil, right(n, varA, partA()))
		hold(t, ahead+varA+ahead, nil, right(n, varA+ahead, partA()))
		hold(t, ahead+funcC+ahead+typeD+ahead, nil, right(n, funcC+ahead, partC()), right(2*n+len(funcC), typeD+ahead, partD()))
	}
	for _, ahead := range []string{"x\n", "package p\n\n", "\n\nx y\n// of a\n", " var a int\n", "\xff\n", ")\n"} {
		n := len(ahead)
		place := junk([2]int{0, n})
		hold(t, ahead+varA, place, right(n, varA, partA()))
		hold(t, ahead+varA+varB+typeD, place, right(n, varA, partA()), right(n+10, varB, partB()), right(n+18, typeD, partD()))
	}
	// Between, and behind, it is the declaration's ahead.
	hold(t, varA+"x\n"+varB, nil, wrong(0, varA+"x\n", 10, api.ErrSyntax), right(12, varB, partB()))
	hold(t, varA+varB+"\n// c\n  x\n", nil, right(0, varA, partA()), wrong(10, varB+"\n// c\n  x\n", 16, api.ErrSyntax))
	hold(t, "x\n"+varA+" var c int\n"+funcC+"}\n", junk([2]int{0, 2}), wrong(2, varA+" var c int\n", 11, api.ErrSyntax), wrong(23, funcC+"}\n", 21, api.ErrSyntax))
	hold(t, varA+";"+varB, nil, wrong(0, varA+";"+varB, 11, api.ErrSyntax))
	hold(t, varA+"\t;\n;\n"+varB, nil, right(0, varA+"\t;\n;\n", partA()), right(15, varB, partB()))
}

func TestSeveral(t *testing.T) {
	hold(t, varA+varB+funcC+typeD, nil, right(0, varA, partA()), right(10, varB, partB()), right(18, funcC, partC()), right(39, typeD, partD()))
	hold(t, typeD+"\n"+funcC+"\n"+varA, nil, right(0, typeD+"\n", partD()), right(26, funcC+"\n", partC()), right(48, varA, partA()))
	hold(t, varA+varA+varA, nil, right(0, varA, partA()), right(10, varA, partA()), right(20, varA, partA()))
	hold(t, "var\nvar a int", nil, wrong(0, wrongV, 4, api.ErrSyntax), right(4, "var a int", partA()))
}

func TestWrong(t *testing.T) {
	hold(t, wrongF, nil, wrong(0, wrongF, 13, api.ErrSyntax))
	hold(t, "var", nil, wrong(0, "var", 3, api.ErrSyntax))
	hold(t, "func f() { return", nil, wrong(0, "func f() { return", 17, api.ErrSyntax))
	hold(t, "x\n"+varA+"type D\n"+wrongF+varB, junk([2]int{0, 2}),
		right(2, varA, partA()), wrong(12, "type D\n", 6, api.ErrSyntax), wrong(19, wrongF, 13, api.ErrSyntax), right(36, varB, partB()))
	hold(t, "var a\xff int\n"+varA, nil, wrong(0, "var a\xff int\n", 5, api.ErrSyntax), right(11, varA, partA()))
	hold(t, "func f() {\nvar a int\n}\n", nil, wrong(0, "func f() {\n", 11, api.ErrSyntax), wrong(11, "var a int\n}\n", 10, api.ErrSyntax))
	deep := "var a " + strings.Repeat("*", api.MaxNest-1) + "int\n"
	hold(t, varB+deep+varA, nil, right(0, varB, partB()), wrong(8, deep, 0, api.ErrDeep), right(8+len(deep), varA, partA()))
	notDeep := strings.Replace(deep, "*", "", 1)
	if l := unit.New(notDeep).Decls(); len(l) != 1 || l[0].E != api.OK || l[0].Part.Kind != "var" {
		t.Errorf("%q: %v", notDeep, l)
	}
	for _, d := range unit.New(wrongF + deep + "var\n" + varA).Decls() {
		if (d.Part.Kind == "") != (d.E != api.OK) {
			t.Errorf("%v", d)
		}
	}
}

// TestKept has programs read again, and how many declarations are kept.
func TestKept(t *testing.T) {
	const a, b, c, d = varA, varB, funcC, typeD
	for _, x := range []struct {
		sort   string
		was, s string
		want   int
	}{
		{"the same", a + b + c + d, a + b + c + d, 4},
		{"the same, with junk", "x\n" + a + b, "x\n" + a + b, 2},
		{"the same, of none", "", "", 0},
		{"the same, of junk", "x\n", "x\n", 0},
		{"the same, of one", a, a, 1},
		{"the same, wrong ones", wrongF + wrongV + a, wrongF + wrongV + a, 3},
		{"one more at the beginning", a + b + c, d + a + b + c, 3},
		{"one more in the middle", a + b + c, a + b + d + c, 3},
		{"one more at the end", a + b + c, a + b + c + d, 3},
		{"one less at the beginning", a + b + c, b + c, 2},
		{"one less in the middle", a + b + c, a + c, 2},
		{"one less at the end", a + b + c, a + b, 2},
		{"one changed at the beginning", a + b + c, d + b + c, 2},
		{"one changed in the middle", a + b + c, a + d + c, 2},
		{"one changed at the end", a + b + c, a + b + d, 2},
		{"one changed by one byte", a + b + c, a + "var b U\n" + c, 2},
		{"one changed by a blank", a + b + c, a + b + "\n" + c, 2},
		{"a byte less at the end", a + b, a + strings.TrimSuffix(b, "\n"), 1},
		{"several changed", a + b + c + d + a, a + "var x T\n" + c + "var y T\n" + a, 2},
		{"several changed, one by the other", a + b + c + d, a + "var x T\nvar y T\n" + d, 2},
		{"the first and the last changed", a + b + c + d, "var x T\n" + b + c + "var y T\n", 0},
		{"two in the other order", a + b, b + a, 0},
		{"two in the middle in the other order", a + b + c + d, a + c + b + d, 2},
		{"the first two in the other order", a + b + c + d, b + a + c + d, 2},
		{"the first and the last in the other order", a + b + c, c + b + a, 0},
		{"one moved to the end", a + b + c, b + c + a, 0},
		{"all others", a + b, c + d, 0},
		{"more others", a, b + c + d, 0},
		{"none then", a + b, "", 0},
		{"none then, but junk", a + b, "x\n", 0},
		{"none ahead", "", a + b, 0},
		{"none ahead, but junk", "x\n" + "// c\n", a + b, 0},
		{"twice then", a, a + a, 1},
		{"twice then, with others", a + c + b, a + a + b, 2},
		{"twice ahead", a + a, a, 1},
		{"thrice ahead", a + a + a, a + a, 2},
		{"thrice then", a + a, a + a + a, 2},
		{"twice in both", a + a, a + a, 2},
		{"twice in both, with others", a + a + b, b + a + a, 0},
		{"twice in both, one between", a + b + a, a + a, 2},
		{"twice in both, one put between", a + a, a + b + a, 2},
		{"both could claim the first", a + b + a, a, 1},
		{"both could claim all", a + a + b + a + a, a + a, 2},
		{"both could claim one of three", a + a + b + a + a, a + a + a, 3},
		{"both could claim more than are left", a + a + a, a + a + b + a + a, 3},
		{"a beginning that is an end", a + b + a + b, a + b, 2},
		{"a beginning that is an end, once more", a + b, a + b + a + b, 2},
		{"an end alone", c + a + b, d + d + a + b, 2},
		{"a beginning alone", a + b + c, a + b + d + d, 2},
		{"one is shorter, at the end", a + b + c + d, c + d, 2},
		{"one is shorter, at both ends", a + b + c + d, a + d, 2},
		{"one is shorter, in the middle", a + b + c + d, b + c, 0},
		{"junk comes ahead", a + b, "x y\n" + a + b, 2},
		{"junk goes", "x y\n" + a + b, a + b, 2},
		{"junk becomes longer", "x\n" + a + b, "xyz\n" + a + b, 2},
		{"a comment comes ahead", a + b, "// c\n\n" + a + b, 2},
		{"a comment comes between", a + b + c, a + "// c\n" + b + c, 2},
		{"junk becomes one", "xvar x T\n" + a + b, "var x T\n" + a + b, 2},
		{"one becomes junk", "var x T\n" + a + b, "xvar x T\n" + a + b, 2},
		{"one becomes another's", a + b + c, a + " " + b + c, 1},
		{"a wrong one is kept", a + wrongF + b, d + a + wrongF + b, 3},
		{"a wrong one is kept behind bytes", wrongF, "x\n" + wrongF, 1},
		{"a wrong one is made right", a + wrongF + b, a + c + b, 2},
		{"a right one is made wrong", a + c + b, a + wrongF + b, 2},
	} {
		v := again(t, unit.New(x.was), x.s)
		if v.Kept() != x.want {
			t.Errorf("%s: %d, not %d", x.sort, v.Kept(), x.want)
		}
	}
}

// TestElsewhere has bytes put in ahead of what is kept: it stands elsewhere, its part within it as before.
func TestElsewhere(t *testing.T) {
	u := unit.New(varA + wrongF + funcC)
	for _, ahead := range []string{"\n", "x\n", "// of a\n\n", typeD, "x\n" + typeD + varB} {
		n := len(ahead)
		v := again(t, u, ahead+varA+wrongF+funcC)
		l := v.Decls()
		kept := l[len(l)-3:]
		want := []unit.Decl{right(n, varA, partA()), wrong(n+10, wrongF, 13, api.ErrSyntax), right(n+27, funcC, partC())}
		if tell(kept) != tell(want) || v.Kept() != 3 {
			t.Errorf("%q: kept %d:\n%snot\n%s", ahead, v.Kept(), tell(kept), tell(want))
		}
		for _, d := range kept {
			if v.Text()[d.From:d.To] != d.Text {
				t.Errorf("%q: %v", ahead, d)
			}
		}
	}
}

// TestManyTimes reads programs again, each of the one ahead, and of ones that are not the last.
func TestManyTimes(t *testing.T) {
	first := unit.New(varA + varB)
	second := again(t, first, varA+funcC+varB)
	third := again(t, second, "x\n"+varA+funcC+wrongF+varB)
	fourth := again(t, third, "")
	fifth := again(t, fourth, varA+varB)
	if second.Kept() != 2 || third.Kept() != 3 || fourth.Kept() != 0 || fifth.Kept() != 0 {
		t.Error(second.Kept(), third.Kept(), fourth.Kept(), fifth.Kept())
	}
	for _, x := range []struct {
		u    *unit.Unit
		want int
	}{{first, 2}, {second, 2}, {third, 2}, {fourth, 0}, {fifth, 2}, {third, 2}, {first, 2}} {
		if v := again(t, x.u, varA+varB); v.Kept() != x.want {
			t.Errorf("%q: %d, not %d", x.u.Text(), v.Kept(), x.want)
		}
	}
	// What is read again of itself keeps all, each time.
	for range 5 {
		if third = again(t, third, third.Text()); third.Kept() != 4 {
			t.Errorf("%d", third.Kept())
		}
	}
}

func TestNoUnit(t *testing.T) {
	var none *unit.Unit
	if len(none.Decls()) != 0 || none.Text() != "" || none.Kept() != 0 || len(none.Junk()) != 0 {
		t.Errorf("%v, %q, %d, %v", none.Decls(), none.Text(), none.Kept(), none.Junk())
	}
	for _, s := range []string{"", "x\n", varA, "x\n" + varA + wrongF, "\xff"} {
		holdUnit(t, none.Again(s), s, 0)
		holdUnit(t, new(unit.Unit).Again(s), s, 0)
		if v := none.Again(s).Again(s); v.Kept() != len(v.Decls()) {
			t.Errorf("%q: %d", s, v.Kept())
		}
	}
	holdUnit(t, new(unit.Unit), "", 0)
}
