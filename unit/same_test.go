package unit_test

import (
	"slices"
	"testing"

	"bolthole/api"
	"bolthole/unit"
)

// declsOfAll are declarations of each kind, and wrong ones.
func declsOfAll() []unit.Decl {
	return unit.New("x\n" + varA + funcC + wrongF + typeD + varA).Decls()
}

// holdSame holds what Same tells of two lists, in both orders, and that it changes neither.
func holdSame(t *testing.T, a, b []unit.Decl, want bool, sort string) {
	t.Helper()
	wasA, wasB := tell(a[:cap(a)]), tell(b[:cap(b)])
	if unit.Same(a, b) != want || unit.Same(b, a) != want {
		t.Errorf("%s: not %t of\n%sand\n%s", sort, want, tell(a), tell(b))
	}
	if tell(a[:cap(a)]) != wasA || tell(b[:cap(b)]) != wasB {
		t.Errorf("%s: Same changed what it was given", sort)
	}
}

func TestSameOfOne(t *testing.T) {
	l := declsOfAll()
	for n := range len(l) + 1 {
		holdSame(t, l[:n], l[:n], true, "itself")
		holdSame(t, l[:n], declsOfAll()[:n], true, "another one")
		holdSame(t, l[:n:n], slices.Clone(l)[:n], true, "what lies behind the length")
	}
	holdSame(t, nil, nil, true, "none")
	holdSame(t, nil, []unit.Decl{}, true, "none, and no nil")
	holdSame(t, make([]unit.Decl, 1), []unit.Decl{{Part: api.Part{Kids: []api.Part{}}}}, true, "no Kids")
	holdSame(t, l[:0], unit.New("x\n").Decls(), true, "none of a program")
	// Behind the length stands another one.
	other := declsOfAll()
	other[2] = unit.Decl{From: -1}
	holdSame(t, l[:2], other[:2], true, "another one behind")
}

// TestSameOfOthers has lists that differ in one thing.
func TestSameOfOthers(t *testing.T) {
	for _, x := range []struct {
		sort   string
		change func(l []unit.Decl)
	}{
		{"From", func(l []unit.Decl) { l[1].From++ }},
		{"From of the first", func(l []unit.Decl) { l[0].From = 0 }},
		{"To", func(l []unit.Decl) { l[1].To-- }},
		{"To of the last", func(l []unit.Decl) { l[4].To++ }},
		{"a place of both", func(l []unit.Decl) { l[1].From, l[1].To = l[1].From+1, l[1].To+1 }},
		{"Text", func(l []unit.Decl) { l[1].Text = "func d() {\n\treturn\n}\n" }},
		{"a shorter Text", func(l []unit.Decl) { l[1].Text = l[1].Text[:4] }},
		{"no Text", func(l []unit.Decl) { l[4].Text = "" }},
		{"the Text of a wrong one", func(l []unit.Decl) { l[2].Text += "\n" }},
		{"At", func(l []unit.Decl) { l[2].At++ }},
		{"At of a right one", func(l []unit.Decl) { l[1].At = 1 }},
		{"an error", func(l []unit.Decl) { l[2].E = api.ErrDeep }},
		{"an error less", func(l []unit.Decl) { l[2].E = api.OK }},
		{"an error more", func(l []unit.Decl) { l[4].E = api.ErrSyntax }},
		{"a kind", func(l []unit.Decl) { l[0].Part.Kind = "type" }},
		{"a part's Text", func(l []unit.Decl) { l[0].Part.Text = "b" }},
		{"a part's From", func(l []unit.Decl) { l[0].Part.From = 1 }},
		{"a part's To", func(l []unit.Decl) { l[4].Part.To++ }},
		{"a part where none is", func(l []unit.Decl) { l[2].Part.Kind = "func" }},
		{"no part", func(l []unit.Decl) { l[1].Part = api.Part{} }},
		{"no Kids", func(l []unit.Decl) { l[1].Part.Kids = nil }},
		{"a Kid less", func(l []unit.Decl) { l[1].Part.Kids = l[1].Part.Kids[:2] }},
		{"a Kid more", func(l []unit.Decl) { l[1].Part.Kids = append(l[1].Part.Kids, api.Part{}) }},
		{"Kids in the other order", func(l []unit.Decl) { slices.Reverse(l[1].Part.Kids) }},
		{"a Kid's kind", func(l []unit.Decl) { l[3].Part.Kids[0].Kind = "param" }},
		{"a Kid's Text", func(l []unit.Decl) { l[3].Part.Kids[0].Text = "" }},
		{"a Kid's From", func(l []unit.Decl) { l[1].Part.Kids[2].From++ }},
		{"a Kid's To", func(l []unit.Decl) { l[1].Part.Kids[2].To-- }},
		{"a Kid that stands nowhere", func(l []unit.Decl) { l[1].Part.Kids[0].To = 1 }},
		{"a Kid's Kid's kind", func(l []unit.Decl) { l[1].Part.Kids[2].Kids[0].Kind = "expr" }},
		{"a Kid's Kid's Text", func(l []unit.Decl) { l[3].Part.Kids[0].Kids[0].Text = "Int" }},
		{"a Kid's Kid's place", func(l []unit.Decl) { l[3].Part.Kids[0].Kids[0].From++ }},
		{"a Kid's Kid less", func(l []unit.Decl) { l[3].Part.Kids[0].Kids = nil }},
		{"a Kid's Kid's Kid more", func(l []unit.Decl) { l[1].Part.Kids[2].Kids[0].Kids = make([]api.Part, 1) }},
		{"the first and the last", func(l []unit.Decl) { l[0], l[4] = l[4], l[0] }},
		{"two in the other order", func(l []unit.Decl) { l[1], l[2] = l[2], l[1] }},
	} {
		l := declsOfAll()
		x.change(l)
		holdSame(t, l, declsOfAll(), false, x.sort)
		holdSame(t, l, l, true, x.sort)
		again := declsOfAll()
		x.change(again)
		holdSame(t, l, again, true, x.sort)
	}
	l := declsOfAll()
	for n := range l {
		holdSame(t, l, l[:n], false, "shorter")
		holdSame(t, l, l[n+1:], false, "shorter at the beginning")
		holdSame(t, l, slices.Concat(l, l[n:]), false, "longer")
		holdSame(t, l, slices.Concat(l[:n], l[n+1:]), false, "one less")
	}
	holdSame(t, nil, make([]unit.Decl, 1), false, "none, and one that has nothing")
}

// TestSameOfAny has declarations that are no program's: there is an answer.
func TestSameOfAny(t *testing.T) {
	deep := api.Part{Kind: "x"}
	for range 1 << 15 {
		deep = api.Part{Kids: []api.Part{deep}}
	}
	other := api.Part{Kids: []api.Part{deep}}
	odd := unit.Decl{From: 5, To: -7, Text: "\xff", Part: part("", "\xff", 9, -9, make([]api.Part, 3)...), At: -1, E: -3}
	holdSame(t, []unit.Decl{odd, odd}, []unit.Decl{odd, odd}, true, "odd ones")
	holdSame(t, []unit.Decl{odd}, []unit.Decl{odd, odd}, false, "odd ones")
	if !unit.Same([]unit.Decl{{Part: deep}}, []unit.Decl{{Part: deep}}) || unit.Same([]unit.Decl{{Part: deep}}, []unit.Decl{{Part: other}}) {
		t.Error("deep ones")
	}
}
