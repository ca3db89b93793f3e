package scope_test

import (
	"math"
	"runtime/debug"
	"slices"
	"strconv"
	"strings"
	"sync"
	"testing"

	"bolthole/api"
	"bolthole/scope"
	"bolthole/unit"
)

// numbers come in an order without a rule that a reader could see, but each time the same one.
type numbers uint32

// below is the next one, below a limit.
func (n *numbers) below(limit int) int {
	*n = *n*1664525 + 1013904223
	return int(*n>>8) % limit
}

// one is one of a list.
func (n *numbers) one(l ...string) string { return l[n.below(len(l))] }

// name is one of few, so that several declarations have it; now and then one that is taken.
func (n *numbers) name() string {
	return n.one("A", "B", "C", "D", "E", "F", "G", "H", "a", "b", n.one(taken...))
}

// typ is a type's text.
func (n *numbers) typ() string {
	if n.below(7) == 0 {
		return n.one("*", "[]") + n.typ()
	}
	return n.one("A", "B", "C", "D", "E", "F", "G", "H", "int", "bool", "string", n.one("W", "a", "nil"))
}

// decl is a declaration's text, now and then of a wrong one.
func (n *numbers) decl() string {
	switch n.below(12) {
	case 0:
		return n.one("var\n", "func f( {}\n", "type A\n", "var A = 1\n", "var a "+strings.Repeat("*", api.MaxNest)+"int\n")
	case 1:
		return "var " + n.name() + " " + n.typ() + "\n// c\n"
	case 2:
		return "func " + n.name() + "(" + n.one("a", "b") + " " + n.typ() + ") " + n.one("", n.typ()) + " {\n\tvar x " + n.typ() + "\n\tx = -1\n}\n"
	}
	s := "type " + n.name() + " struct {\n"
	for range n.below(4) {
		s += "\t" + n.name() + " " + n.typ() + "\n"
	}
	return s + "}\n"
}

// files are as many, of many declarations at most each.
func (n *numbers) files(many, decls int) []scope.File {
	var l []scope.File
	for range many {
		s := n.one("", "x\n", "// c\n")
		for range n.below(decls + 1) {
			s += n.decl()
		}
		l = append(l, file(n.one("a", "b", "c", ""), s))
	}
	return l
}

// TestManyFiles holds what scopes of files of all sorts tell against the model: P13.1 and P13.2.
func TestManyFiles(t *testing.T) {
	n := numbers(13)
	pointing, not, twice := 0, 0, 0
	for many := range 400 {
		s := hold(t, n.files(many%5, 9)...)
		twice += len(s.Twice())
		for _, e := range s.All("type") {
			if s.Points(e.Name) {
				pointing++
			} else {
				not++
			}
		}
	}
	if pointing < 200 || not < 200 || twice < 200 {
		t.Errorf("%d point, %d don't, %d are twice", pointing, not, twice)
	}
}

// TestAllSmallTypes has all ways in which three types may have one field each, or two.
func TestAllSmallTypes(t *testing.T) {
	fields := []string{"", "x int;", "a A;", "b B;", "c C;", "p *A;", "a A; b B;", "b B; c C;", "c C; p []int;"}
	for _, a := range fields {
		for _, b := range fields {
			for _, c := range fields {
				files := []scope.File{file("a", "type A struct {"+a+"}\ntype B struct {"+b+"}\ntype C struct {"+c+"}\n")}
				s := scope.New(files...)
				counts, _ := modelParted(files)
				pointing := modelPointing(counts)
				for _, typ := range []string{"A", "B", "C"} {
					if s.Points(typ) != pointing[typ] {
						t.Errorf("A %s, B %s, C %s: %s: %t", a, b, c, typ, s.Points(typ))
					}
				}
			}
		}
	}
}

// scribble writes into all that parts have, over their lists' whole room.
func scribble(l []api.Part) {
	l = l[:cap(l)]
	for i := range l {
		scribble(l[i].Kids)
		l[i] = api.Part{Kind: "type", Text: "?", From: -1, To: -1, Kids: make([]api.Part, 1)}
	}
}

// scribbleOn writes into all that was told, over its whole room.
func scribbleOn(l []scope.Entry) {
	l = l[:cap(l)]
	for i := range l {
		scribble(l[i].Part.Kids)
		l[i] = scope.Entry{Kind: "func", Name: "A", File: "?", Index: math.MaxInt}
	}
}

// sameFiles are two lists of the same files, that share nothing; behind the first ones' lengths stand others.
func sameFiles(n *numbers) (files, same []scope.File) {
	again := *n
	same = again.files(3, 9)
	files = append(n.files(3, 9), file("behind", "var behind int\n"))[:3]
	for i, f := range files {
		files[i].Decls = append(slices.Clip(f.Decls), unit.New("type behind struct {}\n").Decls()...)[:len(f.Decls)]
		for j, d := range files[i].Decls {
			files[i].Decls[j].Part.Kids = append(slices.Clip(d.Part.Kids), api.Part{Kind: "field", Text: "behind", Kids: make([]api.Part, 1)})[:len(d.Part.Kids)]
		}
	}
	return files, same
}

// TestToldApart writes into what was told: the scope, what it tells besides, and the files are as they were.
func TestToldApart(t *testing.T) {
	n := numbers(4)
	for range 60 {
		files, same := sameFiles(&n)
		was := tellFiles(files)
		s := scope.New(files...)
		all, twice, types := s.All(), s.Twice(), s.All("type")
		wantAll, wantTwice, wantTypes := tell(all...), tell(twice...), tell(types...)
		scribbleOn(s.All())
		scribbleOn(s.Twice())
		scribbleOn(s.All("type", "func"))
		for _, name := range namesOf(same) {
			e, _ := s.Find(name)
			scribbleOn([]scope.Entry{e})
		}
		holdScope(t, s, same...)
		if tell(all...) != wantAll || tell(twice...) != wantTwice || tell(types...) != wantTypes {
			t.Errorf("what was told became\n%s%s%s", tell(all...), tell(twice...), tell(types...))
		}
		if now := tellFiles(files); now != was {
			t.Errorf("files became\n%snot\n%s", now, was)
		}
	}
}

// TestEntriesApart writes into one of an answer's entries, or one of a part's Kids: those beside it are as they were.
func TestEntriesApart(t *testing.T) {
	decl := unit.New("func f(a *T, b *T) T {\n\treturn f(a, b)\n}\n").Decls()[0]
	shared := scope.File{Name: "a", Decls: []unit.Decl{decl, decl, decl}} // of parts that share their Kids
	for _, told := range []func(*scope.Scope) []scope.Entry{func(s *scope.Scope) []scope.Entry { return s.Twice() }, func(s *scope.Scope) []scope.Entry { return s.All() }} {
		s := scope.New(shared, file("b", "type A struct {}\ntype T struct {\n\tp *T\n\tq *T\n}\nvar T *int\nvar A *int\n"))
		for i := range told(s) {
			l := told(s)
			want := tell(slices.Delete(told(s), i, i+1)...)
			scribble(l[i].Part.Kids)
			if got := tell(slices.Delete(l, i, i+1)...); got != want {
				t.Errorf("%d:\n%snot\n%s", i, got, want)
			}
		}
	}
	for i := range decl.Part.Kids {
		e, _ := scope.New(shared).Find("f")
		scribble(e.Part.Kids[i].Kids)
		for j, k := range e.Part.Kids {
			if i != j && tell(scope.Entry{Part: k}) != tell(scope.Entry{Part: decl.Part.Kids[j]}) {
				t.Errorf("%d, %d: %v", i, j, k)
			}
		}
	}
}

// TestFilesApart writes into the files that a scope was made of: it tells what it told.
func TestFilesApart(t *testing.T) {
	n := numbers(7)
	for range 60 {
		files, same := sameFiles(&n)
		s := scope.New(files...)
		told := tell(slices.Concat(s.All(), s.Twice())...)
		for i, f := range files {
			for j := range f.Decls {
				scribble(f.Decls[j].Part.Kids)
				f.Decls[j] = unit.Decl{Part: api.Part{Kind: "type", Text: "A"}}
			}
			files[i] = scope.File{Name: "?"}
		}
		holdScope(t, s, same...)
		if got := tell(slices.Concat(s.All(), s.Twice())...); got != told {
			t.Errorf("%snot\n%s", got, told)
		}
	}
}

// TestKindsStay asks by a list of kinds, that stays as it was.
func TestKindsStay(t *testing.T) {
	s := scope.New(file("a", "var x int\nfunc f() {}\ntype T struct {}\n"))
	kinds := []string{"var", "x", "type", "var", "func"}
	for many := range len(kinds) + 1 {
		s.All(kinds[:many]...)
		if !slices.Equal(kinds, []string{"var", "x", "type", "var", "func"}) {
			t.Fatalf("%q", kinds)
		}
	}
	if l := s.All(kinds[:2]...); len(l) != 1 || l[0].Name != "x" {
		t.Errorf("what stands behind a list's length is read:\n%s", tell(l...))
	}
}

// odd is a declaration that no program has: of any kind and name, any Kids, and now and then an error.
func (n *numbers) odd() unit.Decl {
	kinds := []string{"type", "type", "type", "func", "var", "", "x", "field", "params", "\xff", "block"}
	names := []string{"", "A", "B", "C", "int", "nil", "\xff", "a b", "]", "struct {}", "\n"}
	var p func(deep int) api.Part
	p = func(deep int) api.Part {
		q := api.Part{Kind: n.one("field", "field", "name", "star", "slice", n.one(kinds...)), Text: n.one(names...), From: n.below(9) - 4, To: n.below(9) - 4}
		for range n.below(4) * min(deep, 1) {
			q.Kids = append(q.Kids, p(deep-1))
		}
		return q
	}
	d := unit.Decl{From: n.below(9) - 4, To: n.below(9) - 4, Text: n.one(names...), Part: p(3), At: n.below(3) - 1, E: []api.Errno{0, 0, 0, api.ErrSyntax, -1, 7777}[n.below(6)]}
	d.Part.Kind = n.one(kinds...)
	return d
}

// TestOddDeclarations has ones made by hand: all without an error are declared, and types' texts are answered.
func TestOddDeclarations(t *testing.T) {
	n := numbers(9)
	for many := range 500 {
		files := []scope.File{{Name: "\xff"}, {}, {Name: "a"}}
		for i := range files {
			for range many % 7 {
				files[i].Decls = append(files[i].Decls, n.odd())
			}
		}
		was := tellFiles(files)
		s, again := scope.New(files...), scope.New(files...)
		holdDeclared(t, s, files)
		names := namesOf(files)
		for _, typ := range askedTypes(names...) {
			if s.Type(typ) != again.Type(typ) || s.Points(typ) != again.Points(typ) || s.Points(typ) && !s.Type(typ) || modelBegins(typ) && s.Points(typ) != s.Type(typ) {
				t.Errorf("%q: %t, %t", typ, s.Type(typ), s.Points(typ))
			}
			for _, name := range names {
				f, ok := s.Field(typ, name)
				if g, is := again.Field(typ, name); f != g || ok != is || !ok && f != "" {
					t.Errorf("Field %q of %q: %q, %t, then %q, %t", name, typ, f, ok, g, is)
				}
			}
		}
		if now := tellFiles(files); now != was {
			t.Errorf("files became\n%snot\n%s", now, was)
		}
	}
	s := scope.New(scope.File{Decls: []unit.Decl{{}, {E: -1}, {}, {Part: part("type", "T", 0, 0, part("field", "x", 0, 0), part("name", "y", 0, 0, part("name", "int", 0, 0)))}}})
	if e, ok := s.Find(""); !ok || e.Index != 0 || len(s.All()) != 2 || len(s.All("")) != 1 || len(s.Twice()) != 1 || s.Twice()[0].Index != 2 || s.Type("") {
		t.Errorf("%s%s", tell(e), tell(s.Twice()...))
	}
	if _, ok := s.Field("T", "y"); ok || s.Points("T") {
		t.Error("what is no field counts as one")
	}
	field := part("field", "p", 0, 0, part("star", "", 0, 0, part("name", "int", 0, 0)))
	s = scope.New(scope.File{Decls: []unit.Decl{{Part: part("var", "v", 0, 0, field)}, {Part: part("", "w", 0, 0, field)}, {Part: part("type", "T", 0, 0, part("field", "f", 0, 0, part("name", "v", 0, 0)))}}})
	for _, name := range []string{"v", "w"} {
		if f, ok := s.Field(name, "p"); ok || f != "" || s.Points("T") {
			t.Errorf("%s, that is no type, has a field", name)
		}
	}
}

// TestDeepParts has parts nested as deep as anything is promised of.
func TestDeepParts(t *testing.T) {
	const deep = 1<<16 - 3
	p := part("name", "int", 0, 0)
	for range deep {
		p = part("star", "", 0, 0, p)
	}
	decl := func(kind, name string) unit.Decl {
		return unit.Decl{Part: part(kind, name, 0, 0, part("field", "p", 0, 0, p))}
	}
	s := scope.New(scope.File{Decls: []unit.Decl{decl("type", "T"), decl("var", "v"), decl("func", "T")}})
	if got, ok := s.Field("T", "p"); got != strings.Repeat("*", deep)+"int" || !ok || !s.Points("T") || !s.Type(got) || !s.Points(got) {
		t.Errorf("Field: %d bytes, %t", len(got), ok)
	}
	for _, e := range slices.Concat(s.All(), s.Twice()) {
		n := 0
		for q := e.Part; len(q.Kids) > 0; q = q.Kids[0] {
			n++
		}
		if n != deep+2 {
			t.Errorf("%s: nested %d", e.Name, n)
		}
	}
}

// chain is a program of as many types, each of which has the next one as a field, behind ahead and ahead of behind; the last one's fields are told.
func chain(many int, ahead, behind, last string) string {
	var b strings.Builder
	for i := range many {
		b.WriteString("type T" + strconv.Itoa(i) + " struct {" + ahead + "t T" + strconv.Itoa(i+1) + behind + "}\n")
	}
	b.WriteString("type T" + strconv.Itoa(many) + " struct {" + last + "}\n")
	return b.String()
}

// TestManySteps has types that point by many steps, or don't, in rings too.
func TestManySteps(t *testing.T) {
	for _, many := range []int{1, 2, 998, 999, 1000, 1001, 1002, 2000, 2001, 3500} {
		last := strconv.Itoa(many)
		for _, about := range [][2]string{{"", ""}, {"x int;", ""}, {"", "; u T" + last}, {"", "; x int"}, {"t0 T0; t1 T1;", "; u T" + last}} {
			points := scope.New(file("a", chain(many, about[0], about[1], "x int; p *int")))
			not := scope.New(file("a", chain(many, about[0], about[1], "x int; y bool")))
			ring := scope.New(file("a", chain(many, about[0], about[1], "t T0")))
			holdType(t, points, true, true, "T0", "T1", "T"+last, "T"+strconv.Itoa(many/2))
			holdType(t, not, true, false, "T0", "T1", "T"+last, "T"+strconv.Itoa(many/2))
			holdType(t, ring, true, false, "T0", "T1", "T"+last, "T"+strconv.Itoa(many/2))
			if many > 1 {
				between := scope.New(file("a", chain(many, about[0], about[1], "t T0")+"type W struct {\n\tt T1\n\tp *int\n}\n"), file("b", "type V struct {\n\tt T0\n\tw W\n}\n"))
				holdType(t, between, true, true, "V", "W")
				holdType(t, between, true, false, "T0", "T1")
			}
		}
	}
}

// TestStepsAndStack has more steps than calls within calls could go, on a stack as short as this.
func TestStepsAndStack(t *testing.T) {
	const many = 1 << 16
	points := scope.New(file("a", chain(many, "x int;", "; u T0", "p *int")))
	not := scope.New(file("a", chain(many, "x int;", "; u T0", "t T0")))
	defer debug.SetMaxStack(debug.SetMaxStack(1 << 21))
	holdType(t, points, true, true, "T0", "T1", "T9999")
	holdType(t, not, true, false, "T0", "T1", "T9999")
}

// TestManyWays has types with two fields of the next one each: there are more ways through them than could be gone.
func TestManyWays(t *testing.T) {
	for _, many := range []int{10, 60, 999, 1000, 1001, 5000} {
		s := scope.New(file("a", chain(many, "", "; u T1; v T"+strconv.Itoa(many), "")))
		holdType(t, s, true, false, "T0", "T1", "T"+strconv.Itoa(many))
		s = scope.New(file("a", chain(many, "", "; u int", "t T0; u T1; p []int")))
		holdType(t, s, true, true, "T0", "T1", "T"+strconv.Itoa(many))
	}
	var b strings.Builder
	for i := range 400 {
		b.WriteString("type T" + strconv.Itoa(i) + " struct {")
		for j := range 400 {
			b.WriteString("f" + strconv.Itoa(j) + " T" + strconv.Itoa(j) + ";")
		}
		b.WriteString("}\n")
	}
	holdType(t, scope.New(file("a", b.String())), true, false, "T0", "T399")
}

// TestGreatScopes: no limit is asked for here; many declarations, files, and long names.
func TestGreatScopes(t *testing.T) {
	const many = 1 << 15
	s := scope.New(file("a", strings.Repeat("var x int\n", many)+"func x() {}\n"))
	if e, ok := s.Find("x"); !ok || e.Index != 0 || len(s.All()) != 1 || len(s.Twice()) != many || s.Twice()[many-1].Index != many {
		t.Errorf("%d, %d", len(s.All()), len(s.Twice()))
	}
	one := file("a", "var x int\n")
	if s := scope.New(slices.Repeat([]scope.File{one}, many)...); len(s.All()) != 1 || len(s.Twice()) != many-1 {
		t.Errorf("%d, %d", len(s.All()), len(s.Twice()))
	}
	long := strings.Repeat("a", many)
	s = scope.New(file(long, "type "+long+" struct {\n\t"+long+" *"+long+"\n}\n"))
	if f, ok := s.Field("*"+long, long); f != "*"+long || !ok {
		t.Errorf("Field: %d bytes, %t", len(f), ok)
	}
	holdType(t, s, true, true, long, "[]"+long)
	holdType(t, s, false, false, long+"a", long[1:], "*a"+long)
	if l := scope.New(file("a", chain(many, "", "", ""))).All("type", "func"); len(l) != many+1 || l[0].Name != "T0" || l[1].Name != "T1" || l[2].Name != "T10" {
		t.Errorf("%d", len(l))
	}
}

// TestAnswersHangOnArguments asks scopes in turn, and side by side: P1 and P2.
func TestAnswersHangOnArguments(t *testing.T) {
	n := numbers(5)
	var all [][]scope.File
	var scopes []*scope.Scope
	for range 6 {
		files := n.files(3, 9)
		all, scopes = append(all, files), append(scopes, scope.New(files...))
	}
	var group sync.WaitGroup
	for range 4 {
		group.Go(func() {
			for i, s := range scopes {
				holdScope(t, s, all[i]...)
				holdScope(t, scope.New(all[i]...), all[i]...)
				scribbleOn(s.All())
				scribbleOn(s.Twice())
			}
			for i, s := range slices.Backward(scopes) {
				holdScope(t, s, all[i]...)
			}
		})
	}
	group.Wait()
}
