package scope_test

import (
	"strings"
	"testing"

	"bolthole/scope"
)

// holdType holds what is told of types' texts: whether each is there, and whether it points.
func holdType(t *testing.T, s *scope.Scope, there, points bool, texts ...string) {
	t.Helper()
	for _, typ := range texts {
		if s.Type(typ) != there || s.Points(typ) != points {
			t.Errorf("%q: Type %t, Points %t, not %t, %t", typ, s.Type(typ), s.Points(typ), there, points)
		}
	}
}

func TestType(t *testing.T) {
	s := hold(t, file("a", "type T struct {}\nvar v int\nfunc f() {}\nvar w T\ntype w struct {}\ntype nil struct {}\n"), file("b", "type U struct {\n\tt T\n}\ntype U struct {\n\tp *int\n}\ntype T struct {}\nfunc U() {}\ntype bad\n"))
	holdType(t, s, true, false, "int", "bool", "string", "T", "U")
	for _, name := range []string{"int", "bool", "string", "T", "U"} {
		holdType(t, s, true, true, "*"+name, "[]"+name, "**"+name, "*[]"+name, "[]*"+name, "[][]"+name, "*[]**[][]"+name)
		holdType(t, s, false, false, name+" ", " "+name, "* "+name, " *"+name, "[] "+name, "[ ]"+name, "["+name, "]"+name, "[1]"+name, "[]]"+name, "[[]"+name, "&"+name, name+"*", name+"[]", "("+name+")", "*("+name+")", name+name, name[:len(name)-1], name+"\n", "\x00"+name, name+"\xff", name+"."+name, name+","+name, strings.ToUpper(name)+"x")
	}
	for _, name := range []string{"v", "f", "w", "nil", "bad", "a", "b", "W", "true", "false", "new", "make", "void", "struct", "func", "type", "struct {}", "Int", "\xff", "1", "\"s\""} {
		holdType(t, s, false, false, name, "*"+name, "[]"+name, "**"+name, "[]*[]"+name)
	}
	holdType(t, s, false, false, "", "*", "[]", "**", "[][]", "*[]", "[]*", "[", "]", "*[", "[]]", " ", "\t", "* ", "\n", "&", "()", "\xff", "[]\x00")
}

// TestManyMarks has types that many marks stand ahead of.
func TestManyMarks(t *testing.T) {
	s := hold(t, file("a", "type T struct {}\nvar v T\n"))
	for _, many := range []int{1, 2, 40, 41, 1000, 1 << 16, 1 << 20} {
		for _, mark := range []string{"*", "[]", "*[]", "[]**"} {
			l := strings.Repeat(mark, many)
			holdType(t, s, true, true, l+"T", l+"int", l+"bool", l+"string")
			holdType(t, s, false, false, l, l+"v", l+"W", l+" T", l+"[", l+"]T", "x"+l+"T", l+"T"+l)
			if f, ok := s.Field(l+"T", "x"); ok || f != "" {
				t.Errorf("Field: %q", f)
			}
		}
	}
}

func TestField(t *testing.T) {
	s := hold(t, file("a", "type T struct {\n\ta int\n\tb *[]U\n\tc T\n\ta string\n\tint bool\n\td nothing\n\te *nothing\n}\ntype none struct {}\nvar v T\nfunc f(a int) {}\nfunc g() {}\ntype g struct {\n\ta int\n}\n"),
		file("b", "type U struct {t **T; t T; w V}\ntype T struct {\n\tx int\n}\ntype V struct {v V}\n"))
	for _, x := range []struct{ typ, name, want string }{
		{"T", "a", "int"}, {"T", "b", "*[]U"}, {"T", "c", "T"}, {"T", "int", "bool"}, {"T", "d", "nothing"}, {"T", "e", "*nothing"},
		{"U", "t", "**T"}, {"U", "w", "V"}, {"V", "v", "V"},
	} {
		for _, typ := range []string{x.typ, "*" + x.typ} {
			if got, ok := s.Field(typ, x.name); got != x.want || !ok {
				t.Errorf("%s of %s: %q, %t, not %q", x.name, typ, got, ok, x.want)
			}
		}
		for _, typ := range []string{"**" + x.typ, "[]" + x.typ, "*[]" + x.typ, "[]*" + x.typ, "* " + x.typ, " " + x.typ, x.typ + " ", "&" + x.typ, x.typ + "*", "", "*"} {
			if got, ok := s.Field(typ, x.name); got != "" || ok {
				t.Errorf("%s of %q: %q, %t", x.name, typ, got, ok)
			}
		}
	}
	for _, x := range [][2]string{
		{"T", "x"}, {"T", ""}, {"T", "A"}, {"T", "a "}, {"T", "*a"}, {"T", "T"}, {"none", "a"}, {"none", ""}, {"int", "a"}, {"bool", "a"}, {"string", ""},
		{"v", "a"}, {"f", "a"}, {"g", "a"}, {"W", "a"}, {"nothing", "a"}, {"nil", "a"}, {"", ""}, {"*", ""}, {"[]", ""}, {"b", "t"}, {"U", "x"}, {"V", "w"},
	} {
		for _, typ := range []string{x[0], "*" + x[0]} {
			if got, ok := s.Field(typ, x[1]); got != "" || ok {
				t.Errorf("%s of %q: %q, %t", x[1], typ, got, ok)
			}
		}
	}
}

// TestPoints has declared types that point, and that don't: each by itself, told in one file.
func TestPoints(t *testing.T) {
	for _, x := range []struct {
		sort, s, points, not string // the names of those that point, and of those that don't
	}{
		{"without fields", "type A struct {}\n", "", "A"},
		{"of what is there", "type A struct {\n\ta int\n\tb bool\n\tc string\n}\n", "", "A"},
		{"a star", "type A struct {\n\ta *int\n}\n", "A", ""},
		{"a slice", "type A struct {\n\ta []int\n}\n", "A", ""},
		{"the first one", "type A struct {\n\ta *int\n\tb int\n}\n", "A", ""},
		{"the last one", "type A struct {\n\ta int\n\tb bool\n\tc []string\n}\n", "A", ""},
		{"one that is there twice", "type A struct {\n\ta int\n\ta *int\n}\n", "A", ""},
		{"a field of one that points", "type A struct {\n\tb B\n}\ntype B struct {\n\tp *int\n}\n", "A B", ""},
		{"a field of one that doesn't", "type A struct {\n\tb B\n}\ntype B struct {\n\tp int\n}\n", "", "A B"},
		{"by several steps", "type A struct {\n\tb B\n}\ntype B struct {\n\tx int\n\tc C\n}\ntype C struct {\n\td D\n\tx int\n}\ntype D struct {\n\tx int\n\tp []D\n}\n", "A B C D", ""},
		{"by several steps, from the last on", "type D struct {\n\tp *D\n}\ntype C struct {\n\td D\n}\ntype B struct {\n\tc C\n}\ntype A struct {\n\tb B\n}\n", "A B C D", ""},
		{"by several steps that come to nothing", "type A struct {\n\tb B\n}\ntype B struct {\n\tc C\n}\ntype C struct {\n\tx int\n}\n", "", "A B C"},
		{"by the second of two", "type A struct {\n\tb B\n\tc C\n}\ntype B struct {\n\tx int\n}\ntype C struct {\n\tp *B\n}\n", "A C", "B"},
		{"by the second of two that share one", "type A struct {\n\tb B\n\tc C\n}\ntype B struct {\n\td D\n}\ntype C struct {\n\td D\n\te E\n}\ntype D struct {}\ntype E struct {\n\tp *int\n}\n", "A C E", "B D"},
		{"its own field", "type A struct {\n\ta A\n}\n", "", "A"},
		{"its own field twice", "type A struct {\n\ta A\n\tb A\n}\n", "", "A"},
		{"its own field, and a star behind", "type A struct {\n\ta A\n\tp *int\n}\n", "A", ""},
		{"its own field by a star", "type A struct {\n\ta *A\n}\n", "A", ""},
		{"each other's", "type A struct {\n\tb B\n}\ntype B struct {\n\ta A\n}\n", "", "A B"},
		{"each other's, a star in the first", "type A struct {\n\tb B\n\tp *int\n}\ntype B struct {\n\ta A\n}\n", "A B", ""},
		{"each other's, a star in the second", "type A struct {\n\tb B\n}\ntype B struct {\n\ta A\n\tp *int\n}\n", "A B", ""},
		{"three, one the other's", "type A struct {\n\tb B\n}\ntype B struct {\n\tc C\n}\ntype C struct {\n\ta A\n}\n", "", "A B C"},
		{"three, one the other's, a slice in one", "type A struct {\n\tb B\n}\ntype B struct {\n\tc C\n\tp []int\n}\ntype C struct {\n\ta A\n}\n", "A B C", ""},
		{"beside a ring", "type A struct {\n\tb B\n\td D\n}\ntype B struct {\n\tc C\n}\ntype C struct {\n\tb B\n}\ntype D struct {\n\tp *int\n}\n", "A D", "B C"},
		{"a field's type that is not there", "type A struct {\n\ta W\n}\n", "", "A W"},
		{"a star of a field's type that is not there", "type A struct {\n\ta *W\n}\ntype B struct {\n\ta []W\n}\ntype C struct {\n\ta A\n}\n", "A B C", "W"},
		{"a field's type that is a variable", "type A struct {\n\ta v\n\tb f\n}\nvar v *int\nfunc f(p *int) *int {\n\treturn p\n}\n", "", "A v f"},
		{"a field's type that is twice", "type A struct {\n\ta B\n}\nvar B int\ntype B struct {\n\tp *int\n}\n", "", "A B"},
		{"a field's type that is twice, the first one doesn't", "type A struct {\n\ta B\n}\ntype B struct {}\ntype B struct {\n\tp *int\n}\n", "", "A B"},
		{"a field's type that is twice, the first one does", "type A struct {\n\ta B\n}\ntype B struct {\n\tp *int\n}\ntype B struct {}\n", "A B", ""},
		{"a field's type that is wrong", "type A struct {\n\ta B\n}\ntype B struct {\n\tp *\n}\n", "", "A B"},
		{"a name that is taken", "type A struct {\n\ta int\n\tb nil\n}\ntype int struct {\n\tp *A\n}\ntype nil struct {\n\tp *A\n}\n", "", "A int nil"},
		{"of no kind of its own", "type A struct {\n\ta int\n}\nvar v *int\n", "", "A v"},
	} {
		t.Run(x.sort, func(t *testing.T) {
			s := hold(t, file("a", x.s))
			for _, name := range strings.Fields(x.points) {
				holdType(t, s, true, true, name)
			}
			for _, name := range strings.Fields(x.not) {
				if s.Points(name) {
					t.Errorf("%s points", name)
				}
				holdType(t, s, s.Type(name), s.Type(name), "*"+name, "[]"+name)
			}
		})
	}
}

// TestAcrossFiles has types whose fields' types other files declare.
func TestAcrossFiles(t *testing.T) {
	a, b, c := file("a", "type A struct {\n\tb B\n}\n"), file("b", "type B struct {\n\tc C\n}\n"), file("c", "type C struct {\n\tp *A\n}\n")
	holdType(t, hold(t, a, b, c), true, true, "A", "B", "C")
	holdType(t, hold(t, c, a, b), true, true, "A", "B", "C")
	holdType(t, hold(t, a, b), true, false, "A", "B")
	holdType(t, hold(t, a, b), false, false, "C", "*C", "[]C")
	holdType(t, hold(t, a, b, file("d", "type C struct {}\n"), c), true, false, "A", "B", "C")
	holdType(t, hold(t, a, b, c, file("d", "type C struct {}\n")), true, true, "A", "B", "C")
}
