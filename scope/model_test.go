package scope_test

import (
	"slices"
	"strconv"
	"strings"
	"testing"

	"bolthole/api"
	"bolthole/scope"
	"bolthole/unit"
)

// taken are the names that are there without a declaration.
var taken = []string{"int", "bool", "string", "true", "false", "nil", "new", "make"}

// someKinds are lists of kinds, some of them none.
var someKinds = [][]string{nil, {}, {"func"}, {"var"}, {"type"}, {"func", "var"}, {"type", "func"}, {"var", "type"}, {"type", "var", "func"}, {"var", "var"}, {"x"}, {""}, {"x", "type"}, {"Func"}, {"func", "", "func"}}

// modelDeclared is what is declared by files, file by file.
func modelDeclared(files []scope.File) []scope.Entry {
	var l []scope.Entry
	for _, f := range files {
		for i, d := range f.Decls {
			if d.E == 0 {
				l = append(l, scope.Entry{Kind: d.Part.Kind, Name: d.Part.Text, File: f.Name, Index: i, Part: d.Part})
			}
		}
	}
	return l
}

// modelParted is what counts, by name, and what is twice, in order.
func modelParted(files []scope.File) (counts, twice []scope.Entry) {
	l := modelDeclared(files)
	for i, e := range l {
		first := slices.IndexFunc(l, func(o scope.Entry) bool { return o.Name == e.Name })
		if first == i && !slices.Contains(taken, e.Name) {
			counts = append(counts, e)
		} else {
			twice = append(twice, e)
		}
	}
	slices.SortFunc(counts, func(a, b scope.Entry) int { return strings.Compare(a.Name, b.Name) })
	return counts, twice
}

// modelAll is what counts, of kinds.
func modelAll(counts []scope.Entry, kinds []string) []scope.Entry {
	return slices.DeleteFunc(slices.Clone(counts), func(e scope.Entry) bool { return len(kinds) > 0 && !slices.Contains(kinds, e.Kind) })
}

// modelText is a type's text.
func modelText(p api.Part) string {
	return map[string]string{"star": "*", "slice": "[]", "name": p.Text}[p.Kind] + strings.Join(modelTexts(p.Kids), "")
}

// modelTexts are types' texts.
func modelTexts(l []api.Part) []string {
	var texts []string
	for _, p := range l {
		texts = append(texts, modelText(p))
	}
	return texts
}

// modelFind is what counts of a name, of some kinds.
func modelFind(counts []scope.Entry, name string, kinds ...string) (scope.Entry, bool) {
	for _, e := range modelAll(counts, kinds) {
		if e.Name == name {
			return e, true
		}
	}
	return scope.Entry{}, false
}

// modelThere tells whether a type is there.
func modelThere(counts []scope.Entry, t string) bool {
	_, declared := modelFind(counts, t, "type")
	return declared || t == "int" || t == "bool" || t == "string" ||
		strings.HasPrefix(t, "*") && modelThere(counts, t[1:]) ||
		strings.HasPrefix(t, "[]") && modelThere(counts, t[2:])
}

// modelField is a field's type.
func modelField(counts []scope.Entry, t, name string) (string, bool) {
	if strings.HasPrefix(t, "*") {
		t = t[1:]
	}
	e, _ := modelFind(counts, t, "type")
	for _, k := range e.Part.Kids {
		if k.Text == name {
			return modelText(k.Kids[0]), true
		}
	}
	return "", false
}

// modelBegins tells whether a type's text begins as that of one that points.
func modelBegins(t string) bool { return t != "" && t[0] == '*' || len(t) > 1 && t[:2] == "[]" }

// modelPointing are the declared types that point: those with a field that does by its text alone, then those with a field of one of these, till there are no more.
func modelPointing(counts []scope.Entry) map[string]bool {
	pointing := map[string]bool{}
	for more := true; more; {
		more = false
		for _, e := range modelAll(counts, []string{"type"}) {
			for _, k := range e.Part.Kids {
				t := modelText(k.Kids[0])
				if !pointing[e.Name] && (modelBegins(t) || pointing[t]) {
					pointing[e.Name], more = true, true
				}
			}
		}
	}
	return pointing
}

// tellPart writes a part with all that it has.
func tellPart(b *strings.Builder, p api.Part) {
	b.WriteString(strconv.Quote(p.Kind) + strconv.Quote(p.Text) + strconv.Itoa(p.From) + "-" + strconv.Itoa(p.To) + "(")
	for _, k := range p.Kids {
		tellPart(b, k)
	}
	b.WriteString(")")
}

// tell writes what is declared, a line each.
func tell(l ...scope.Entry) string {
	var b strings.Builder
	for _, e := range l {
		b.WriteString(e.Kind + " " + strconv.Quote(e.Name) + " of " + strconv.Quote(e.File) + " " + strconv.Itoa(e.Index) + " ")
		tellPart(&b, e.Part)
		b.WriteString("\n")
	}
	return b.String()
}

// whole is a part, with what stands behind its lists' lengths.
func whole(p api.Part) api.Part {
	var kids []api.Part
	for _, k := range p.Kids[:cap(p.Kids)] {
		kids = append(kids, whole(k))
	}
	p.Kids = kids
	return p
}

// tellFiles writes files with all that they have, and what stands behind their lists' lengths.
func tellFiles(files []scope.File) string {
	var b strings.Builder
	for _, f := range files[:cap(files)] {
		b.WriteString(strconv.Quote(f.Name) + " " + strconv.Itoa(len(f.Decls)) + "\n")
		for _, d := range f.Decls[:cap(f.Decls)] {
			b.WriteString(strconv.Itoa(d.From) + "-" + strconv.Itoa(d.To) + " " + strconv.Quote(d.Text) + " " + strconv.Itoa(d.At) + " " + strconv.Itoa(int(d.E)) + " ")
			tellPart(&b, whole(d.Part))
			b.WriteString("\n")
		}
	}
	return b.String()
}

// file is a program's.
func file(name, s string) scope.File { return scope.File{Name: name, Decls: unit.New(s).Decls()} }

// askedTypes are types' texts, that are there or not, of names.
func askedTypes(names ...string) []string {
	var l []string
	for _, n := range names {
		l = append(l, n, "*"+n, "[]"+n, "**"+n, "*[]"+n, "[]*"+n, "[][]"+n, "*[]*[][]**"+n, " "+n, n+" ", "* "+n, "[ ]"+n, "["+n, "]"+n, "&"+n, n+"*", n+"[]", "("+n+")")
	}
	return l
}

// namesOf are the names of what is declared, of what it has, and some others.
func namesOf(files []scope.File) []string {
	names := slices.Concat(taken, []string{"", "nothing", "func", "var", "type", "struct", "\xff"})
	for _, e := range modelDeclared(files) {
		names = append(names, e.Name)
		for _, k := range e.Part.Kids {
			names = append(names, k.Text)
		}
	}
	slices.Sort(names)
	return slices.Compact(names)
}

// holdScope holds all that a scope tells against the model.
func holdScope(t *testing.T, s *scope.Scope, files ...scope.File) {
	t.Helper()
	holdDeclared(t, s, files)
	holdTypes(t, s, files)
}

// holdDeclared holds what a scope tells of what is declared: P13.1, C1, and P13.2.
func holdDeclared(t *testing.T, s *scope.Scope, files []scope.File) {
	t.Helper()
	counts, twice := modelParted(files)
	for _, kinds := range someKinds {
		if got, want := s.All(kinds...), modelAll(counts, kinds); tell(got...) != tell(want...) {
			t.Errorf("All of %q:\n%snot\n%s", kinds, tell(got...), tell(want...))
		}
	}
	if got := s.Twice(); tell(got...) != tell(twice...) {
		t.Errorf("Twice:\n%snot\n%s", tell(got...), tell(twice...))
	}
	for _, name := range namesOf(files) {
		want, there := modelFind(counts, name)
		if got, ok := s.Find(name); ok != there || tell(got) != tell(want) {
			t.Errorf("Find of %q: %t\n%snot\n%s", name, ok, tell(got), tell(want))
		}
	}
	holdOneEach(t, s, files)
}

// holdOneEach holds P13.2.
func holdOneEach(t *testing.T, s *scope.Scope, files []scope.File) {
	t.Helper()
	all := s.All()
	for i, e := range all {
		if i > 0 && all[i-1].Name >= e.Name {
			t.Errorf("%q comes behind %q", e.Name, all[i-1].Name)
		}
	}
	var got, want []string
	for _, e := range slices.Concat(all, s.Twice()) {
		got = append(got, tell(e))
	}
	for _, e := range modelDeclared(files) {
		want = append(want, tell(e))
	}
	slices.Sort(got)
	slices.Sort(want)
	if !slices.Equal(got, want) {
		t.Errorf("All and Twice: %q, not %q", got, want)
	}
}

// holdTypes holds what a scope tells of types: P13.1, C2.
func holdTypes(t *testing.T, s *scope.Scope, files []scope.File) {
	t.Helper()
	counts, _ := modelParted(files)
	pointing := modelPointing(counts)
	names := namesOf(files)
	for _, typ := range askedTypes(names...) {
		there := modelThere(counts, typ)
		if got := s.Type(typ); got != there {
			t.Errorf("Type of %q: %t", typ, got)
		}
		if got := s.Points(typ); got != (there && (modelBegins(typ) || pointing[typ])) {
			t.Errorf("Points of %q: %t", typ, got)
		}
		for _, name := range names {
			want, is := modelField(counts, typ, name)
			if got, ok := s.Field(typ, name); got != want || ok != is {
				t.Errorf("Field %q of %q: %q, %t, not %q, %t", name, typ, got, ok, want, is)
			}
		}
	}
}
