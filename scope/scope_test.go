package scope_test

import (
	"testing"

	"bolthole/api"
	"bolthole/scope"
	"bolthole/unit"
)

// hold holds what a scope of files tells against the model, and that New left the files as they were.
func hold(t *testing.T, files ...scope.File) *scope.Scope {
	t.Helper()
	was := tellFiles(files)
	s := scope.New(files...)
	holdScope(t, s, files...)
	if now := tellFiles(files); now != was {
		t.Errorf("files became\n%snot\n%s", now, was)
	}
	return s
}

// holdNames holds what counts, and what is twice, each as its name, and its file's.
func holdNames(t *testing.T, s *scope.Scope, counts, twice string) {
	t.Helper()
	names := func(l []scope.Entry) string {
		told := ""
		for _, e := range l {
			told += e.Kind + " " + e.Name + " " + e.File + ", "
		}
		return told
	}
	if got := names(s.All()); got != counts {
		t.Errorf("All: %snot %s", got, counts)
	}
	if got := names(s.Twice()); got != twice {
		t.Errorf("Twice: %snot %s", got, twice)
	}
}

// part is a part, made by hand.
func part(kind, text string, from, to int, kids ...api.Part) api.Part {
	return api.Part{Kind: kind, Text: text, From: from, To: to, Kids: kids}
}

// TestNoDeclarations has no files, and ones without declarations.
func TestNoDeclarations(t *testing.T) {
	for _, files := range [][]scope.File{
		nil, {}, {{}}, {{Name: "a"}}, {{Name: "a", Decls: []unit.Decl{}}}, {{Name: "a"}, {Name: "b"}, {Name: "a"}},
		{file("a", "")}, {file("a", "x\n"), file("b", "// c\n")}, {file("a", "var\n")}, {file("a", "func f() { x y }\ntype\n"), file("b", "var x = 1\n")},
	} {
		s := hold(t, files...)
		holdNames(t, s, "", "")
	}
}

// TestNoScope asks a nil one, and one that New didn't make: as without files.
func TestNoScope(t *testing.T) {
	var none *scope.Scope
	for _, s := range []*scope.Scope{none, new(scope.Scope), scope.New()} {
		holdScope(t, s)
		if e, ok := s.Find("x"); ok || tell(e) != tell(scope.Entry{}) {
			t.Errorf("Find: %s", tell(e))
		}
		for _, typ := range []string{"int", "bool", "string", "*int", "[]bool", "**[]string"} {
			if !s.Type(typ) || s.Points(typ) != (typ[0] == '*' || typ[0] == '[') {
				t.Errorf("%q: %t, %t", typ, s.Type(typ), s.Points(typ))
			}
		}
		for _, typ := range []string{"", "*", "[]", "T", "*T", "nil"} {
			if s.Type(typ) || s.Points(typ) {
				t.Errorf("%q: %t, %t", typ, s.Type(typ), s.Points(typ))
			}
		}
		if f, ok := s.Field("T", "x"); ok || f != "" {
			t.Errorf("Field: %q", f)
		}
	}
}

// TestOneOfEachKind holds all that is told of one, and of its part.
func TestOneOfEachKind(t *testing.T) {
	s := hold(t, file("a", "x\nvar v *T\n// c\n\ntype T struct {\n\tx int\n}\n"), file("b", "func f(p T) {}\n"))
	v := scope.Entry{Kind: "var", Name: "v", File: "a", Index: 0, Part: part("var", "v", 0, 8, part("star", "", 6, 8, part("name", "T", 7, 8)))}
	typ := scope.Entry{Kind: "type", Name: "T", File: "a", Index: 1, Part: part("type", "T", 0, 24, part("field", "x", 17, 22, part("name", "int", 19, 22)))}
	f := scope.Entry{Kind: "func", Name: "f", File: "b", Index: 0, Part: part("func", "f", 0, 14, part("params", "", 7, 10, part("param", "p", 7, 10, part("name", "T", 9, 10))), part("result", "", 0, 0), part("block", "", 12, 14))}
	for _, want := range []scope.Entry{v, typ, f} {
		if got, ok := s.Find(want.Name); !ok || tell(got) != tell(want) {
			t.Errorf("Find:\n%snot\n%s", tell(got), tell(want))
		}
		if got := s.All(want.Kind); tell(got...) != tell(want) {
			t.Errorf("All:\n%snot\n%s", tell(got...), tell(want))
		}
	}
	if got := s.All(); tell(got...) != tell(typ, f, v) {
		t.Errorf("All:\n%s", tell(got...))
	}
	if l := s.Twice(); len(l) != 0 {
		t.Errorf("Twice:\n%s", tell(l...))
	}
}

// TestKinds asks for what counts, of kinds: by name, whatever the kind.
func TestKinds(t *testing.T) {
	s := hold(t, file("b", "var d int\nfunc c() {}\ntype b struct {}\nfunc a() {}\n"), file("a", "type _ struct {}\nvar B int\nfunc c1() {}\nvar aa int\nfunc a() {}\n"))
	for _, x := range []struct {
		kinds []string
		want  string
	}{
		{nil, "B_aaabcc1d"}, {[]string{}, "B_aaabcc1d"},
		{[]string{"func"}, "acc1"}, {[]string{"var"}, "Baad"}, {[]string{"type"}, "_b"},
		{[]string{"func", "var"}, "Baaacc1d"}, {[]string{"var", "func"}, "Baaacc1d"}, {[]string{"type", "func"}, "_abcc1"}, {[]string{"var", "func", "type"}, "B_aaabcc1d"},
		{[]string{"type", "type"}, "_b"}, {[]string{"var", "type", "var"}, "B_aabd"},
		{[]string{"x"}, ""}, {[]string{""}, ""}, {[]string{"a"}, ""}, {[]string{"fun"}, ""}, {[]string{"func "}, ""}, {[]string{"params"}, ""}, {[]string{"x", "type", ""}, "_b"},
	} {
		names := ""
		for _, e := range s.All(x.kinds...) {
			names += e.Name
		}
		if names != x.want {
			t.Errorf("%q: %s, not %s", x.kinds, names, x.want)
		}
	}
}

// TestWhichCounts has names that are declared once, twice and more often.
func TestWhichCounts(t *testing.T) {
	const varX, typeX, funcX, varY = "var x int\n", "type x struct {}\n", "func x() {}\n", "var y int\n"
	for _, x := range []struct {
		sort, a, b    string
		counts, twice string
	}{
		{"once", varX, varY, "var x a, var y b, ", ""},
		{"once, the other way round", varY, varX, "var x b, var y a, ", ""},
		{"twice in a file", varX + varX, "", "var x a, ", "var x a, "},
		{"twice in the second file", "", varX + varX, "var x b, ", "var x b, "},
		{"twice in two files", varX, varX, "var x a, ", "var x b, "},
		{"thrice in a file", varX + varX + varX, "", "var x a, ", "var x a, var x a, "},
		{"thrice in two files", varX, varX + varX, "var x a, ", "var x b, var x b, "},
		{"often", varX + varX, varX + varX, "var x a, ", "var x a, var x b, var x b, "},
		{"of all kinds, a variable first", varX + typeX + funcX, "", "var x a, ", "type x a, func x a, "},
		{"of all kinds, a type first", typeX + varX, funcX, "type x a, ", "var x a, func x b, "},
		{"of all kinds, a function first", funcX, varX + typeX, "func x a, ", "var x b, type x b, "},
		{"with others between", varX + varY + funcX, typeX + varY, "var x a, var y a, ", "func x a, type x b, var y b, "},
		{"first in the second file alone", varY, varX + varY + typeX, "var x b, var y a, ", "var y b, type x b, "},
		{"wrong ones ahead", "var x = 1\nfunc x(\n" + funcX, "type x\n" + varX, "func x a, ", "var x b, "},
		{"wrong ones alone", "var x = 1\n", "func x( {}\n", "", ""},
		{"names that differ by a letter", "var x int\nvar X int\nvar xx int\nvar _x int\n", "var x1 int\n", "var X a, var _x a, var x a, var x1 b, var xx a, ", ""},
		{"what stands within is not declared", "func f(x int) {\n\tvar y int\n\tz := 1\n}\ntype T struct {\n\tx int\n}\n", varX + varY, "type T a, func f a, var x b, var y b, ", ""},
	} {
		t.Run(x.sort, func(t *testing.T) {
			s := hold(t, file("a", x.a), file("b", x.b))
			holdNames(t, s, x.counts, x.twice)
		})
	}
}

// TestFilesInOrder has the same files in other orders, and ones of one name.
func TestFilesInOrder(t *testing.T) {
	a, b, c := file("a", "var x int\nvar y int\n"), file("b", "func y() {}\nfunc x() {}\n"), file("c", "type y struct {}\n")
	holdNames(t, hold(t, a, b, c), "var x a, var y a, ", "func y b, func x b, type y c, ")
	holdNames(t, hold(t, c, b, a), "func x b, type y c, ", "func y b, var x a, var y a, ")
	holdNames(t, hold(t, b, a, c), "func x b, func y b, ", "var x a, var y a, type y c, ")
	holdNames(t, hold(t, file("", ""), c, file("", "x\n"), a), "var x a, type y c, ", "var y a, ")
	holdNames(t, hold(t, a, a), "var x a, var y a, ", "var x a, var y a, ")
	// Each one's numbers are its own.
	s := hold(t, file("a", "var\nvar x int\n"), file("a", "var\nvar\nvar y int\nfunc x() {}\n"), file("a", "type z struct {}\n"))
	holdNames(t, s, "var x a, var y a, type z a, ", "func x a, ")
	for name, want := range map[string]int{"x": 1, "y": 2, "z": 0} {
		if e, ok := s.Find(name); !ok || e.Index != want {
			t.Errorf("%s: %d, not %d", name, e.Index, want)
		}
	}
	if l := s.Twice(); len(l) != 1 || l[0].Index != 3 {
		t.Errorf("Twice:\n%s", tell(l...))
	}
	for _, name := range []string{"", "a b", "\xff", "\u05d0", "int"} {
		if e, ok := hold(t, file(name, "var x int\n")).Find("x"); !ok || e.File != name {
			t.Errorf("%q: %s", name, tell(e))
		}
	}
}

// TestTakenNames has each name declared that is there already: none of them counts.
func TestTakenNames(t *testing.T) {
	for _, name := range taken {
		for _, x := range []struct{ kind, s string }{{"var", "var " + name + " int\n"}, {"func", "func " + name + "() {}\n"}, {"type", "type " + name + " struct {\n\tp *" + name + "\n}\n"}} {
			s := hold(t, file("a", "var x int\n"+x.s), file("b", x.s))
			holdNames(t, s, "var x a, ", x.kind+" "+name+" a, "+x.kind+" "+name+" b, ")
			if e, ok := s.Find(name); ok || tell(e) != tell(scope.Entry{}) {
				t.Errorf("Find of %q: %s", name, tell(e))
			}
			if there := name == "int" || name == "bool" || name == "string"; s.Type(name) != there || s.Type("*"+name) != there || s.Points(name) {
				t.Errorf("%s %q: %t, %t", x.kind, name, s.Type(name), s.Points(name))
			}
			if f, ok := s.Field(name, "p"); ok || f != "" {
				t.Errorf("Field of %q: %q", name, f)
			}
		}
	}
	all := ""
	for _, name := range taken {
		all += "var " + name + " int\n"
	}
	if l := hold(t, file("a", all+"var Int int\nvar nil1 int\nvar ints int\nvar len int\nvar append int\nvar void int\nvar error int\n")).Twice(); len(l) != len(taken) || l[0].Name != taken[0] || l[7].Name != taken[7] {
		t.Errorf("Twice:\n%s", tell(l...))
	}
}

// TestFind holds what is found of names of all sorts.
func TestFind(t *testing.T) {
	s := hold(t, file("a", "var\nfunc once() {}\nfunc often() {}\nvar nil int\n"), file("b", "type often struct {}\nfunc f( {}\nvar last []int\nvar wrong = 1\n"))
	for _, x := range []struct {
		name, kind, file string
		index, to        int
	}{
		{"once", "func", "a", 1, 14}, {"often", "func", "a", 2, 15}, {"last", "var", "b", 2, 14},
	} {
		e, ok := s.Find(x.name)
		if !ok || e.Kind != x.kind || e.Name != x.name || e.File != x.file || e.Index != x.index || e.Part.Kind != x.kind || e.Part.Text != x.name || e.Part.From != 0 || e.Part.To != x.to {
			t.Errorf("%s: %t %s", x.name, ok, tell(e))
		}
	}
	for _, name := range []string{"nil", "wrong", "f", "nothing", "", "Once", "onc", "once ", "*once", "a", "b", "int", "func", "\xff"} {
		if e, ok := s.Find(name); ok || tell(e) != tell(scope.Entry{}) {
			t.Errorf("%q: %t %s", name, ok, tell(e))
		}
	}
}
