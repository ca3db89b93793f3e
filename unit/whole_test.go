package unit_test

import (
	"math"
	"slices"
	"strings"
	"sync"
	"testing"

	"bolthole/api"
	"bolthole/unit"
)

// pieces are what programs are made of: declarations, wrong ones, and what is none.
var pieces = []string{
	varA, varA, varB, funcC, typeD, wrongF, wrongV, "var a []int // of a\n", "\n", "// c\n", "x\n", "func f(p *T) { p.x = 1 }\n\n", "type\n", " var", "func", "var c", "\xff", "\u05d0\n", "}\n",
}

// numbers come in an order without a rule that a reader could see, but each time the same one.
type numbers uint32

// below is the next one, below a limit.
func (n *numbers) below(limit int) int {
	*n = *n*1664525 + 1013904223
	return int(*n>>8) % limit
}

// list is as many pieces.
func (n *numbers) list(many int) []string {
	var l []string
	for range many {
		l = append(l, pieces[n.below(len(pieces))])
	}
	return l
}

// changed is pieces with some put in, removed, replaced or moved.
func (n *numbers) changed(l []string) []string {
	from := n.below(len(l) + 1)
	to := from + n.below(min(3, len(l)-from)+1)
	switch n.below(3) {
	case 0:
		return slices.Concat(l[:from], n.list(n.below(3)), l[to:])
	case 1:
		return slices.Concat(l[:from], l[to:])
	}
	return slices.Concat(l[:from], l[to:], l[from:to])
}

// TestAllShortLists reads all programs of up to four declarations again of all others: P12.1 and P12.2.
func TestAllShortLists(t *testing.T) {
	all := []string{""}
	last := all
	for range 4 {
		var longer []string
		for _, s := range last {
			for _, d := range []string{varA, varB, wrongV} {
				longer = append(longer, s+d)
			}
		}
		all = append(all, longer...)
		last = longer
	}
	var units []*unit.Unit
	for _, s := range all {
		units = append(units, unit.New(s))
	}
	for _, u := range units {
		for _, s := range all {
			again(t, u, s)
		}
	}
}

// TestLongPrograms reads programs again, each of one of the last ones.
func TestLongPrograms(t *testing.T) {
	n := numbers(12)
	kept := 0
	for range 200 {
		l := n.list(n.below(30))
		units := []*unit.Unit{unit.New(strings.Join(l, ""))}
		holdUnit(t, units[0], units[0].Text(), 0)
		for range 12 {
			l = n.changed(l)
			v := again(t, units[max(0, len(units)-1-n.below(3))], strings.Join(l, ""))
			kept += v.Kept()
			units = append(units, v)
		}
	}
	if kept < 5000 {
		t.Errorf("%d kept", kept)
	}
}

// TestByBytes has programs whose bytes are changed, at all places.
func TestByBytes(t *testing.T) {
	s := "x\n" + varA + varB + "// c\n" + wrongV + varA
	u := unit.New(s)
	for from := range len(s) + 1 {
		for _, to := range []int{from, from + 1, from + 4, len(s)} {
			for _, text := range []string{"", "x", "\n", "\nvar b T\n", "\xff", "\ntype\n"} {
				if to <= len(s) {
					again(t, u, s[:from]+text+s[to:])
				}
			}
		}
	}
}

// TestTheSame holds P12.3, of units that were read in many ways.
func TestTheSame(t *testing.T) {
	n := numbers(3)
	for range 300 {
		s := strings.Join(n.list(n.below(20)), "")
		for _, u := range []*unit.Unit{unit.New(s), unit.New(strings.Join(n.list(9), "")).Again(s), unit.New("").Again(s)} {
			if v := again(t, u, s); v.Kept() != len(v.Decls()) || v.Kept() != len(u.Decls()) {
				t.Fatalf("%q: %d of %d", s, v.Kept(), len(v.Decls()))
			}
		}
	}
}

// TestKeptIsNotReadAgain counts what a call asks of the memory: what is kept was read already.
func TestKeptIsNotReadAgain(t *testing.T) {
	s := strings.Repeat("func f() { x := 1+2*3; x = g(x, (x), &x); for x < 1 { x = 2 } }\n", 50)
	u := unit.New(s)
	fresh := testing.AllocsPerRun(5, func() { unit.New(s) })
	for _, x := range []struct {
		sort, s string
		kept    bool
	}{{"the same", s, true}, {"one more at the end", s + varB, true}, {"one more at the beginning", varB + s, true}, {"one more at both", varA + s + varB, false}} {
		if n := testing.AllocsPerRun(5, func() { u.Again(x.s) }); (n < fresh/2) != x.kept {
			t.Errorf("%s: %v, and %v afresh", x.sort, n, fresh)
		}
	}
}

// scribble writes into all that a part has.
func scribble(l []api.Part) {
	l = l[:cap(l)]
	for i := range l {
		scribble(l[i].Kids)
		l[i] = api.Part{Kind: "?", Text: "?", From: -1, To: -1, Kids: make([]api.Part, 1)}
	}
}

// scribbleOn writes into all that declarations have, but not into the list itself.
func scribbleOn(l []unit.Decl) {
	for i := range l {
		scribble(l[i].Part.Kids)
	}
}

// TestListsApart writes into what was told, over its whole room: the unit, what is told of it, and what is read again of it are as they were.
func TestListsApart(t *testing.T) {
	for _, s := range []string{"x\n" + varA + funcC + wrongF + varA + typeD, varA + varA + varA, "x", funcC, ""} {
		u := unit.New(s)
		other := u.Again(s + varB)
		for _, v := range []*unit.Unit{u, u.Again(s), other.Again(s), u.Again("\n" + s), other} {
			text, kept := v.Text(), v.Kept()
			want, _ := modelDecls(text)
			stays := v.Decls()
			l, places := v.Decls(), v.Junk()
			scribbleOn(l)
			l, places = l[:cap(l)], places[:cap(places)]
			for i := range l {
				l[i] = unit.Decl{From: -1, To: math.MaxInt, Text: "?", E: -1}
			}
			for i := range places {
				places[i] = [2]int{-1, -2}
			}
			if tell(stays) != tell(want) {
				t.Fatalf("%q: what was told became\n%s", text, tell(stays))
			}
			holdUnit(t, v, text, kept)
			again(t, v, text)
			again(t, v, varB+text+varB)
			holdUnit(t, u, s, 0)
		}
	}
}

// TestPartsApart writes into one declaration's part: those beside it in the same answer, of the same text too, are as they were.
func TestPartsApart(t *testing.T) {
	s := funcC + funcC + varA + varA + funcC
	for _, u := range []*unit.Unit{unit.New(s), unit.New(s).Again(s), unit.New(funcC + varA).Again(s)} {
		for i := range u.Decls() {
			l := u.Decls()
			want, _ := modelDecls(s)
			scribbleOn(l[i : i+1])
			l, want = slices.Delete(l, i, i+1), slices.Delete(want, i, i+1)
			if tell(l) != tell(want) {
				t.Fatalf("%d:\n%snot\n%s", i, tell(l), tell(want))
			}
		}
	}
}

// TestWhatWasToldStays has units read again after they told something.
func TestWhatWasToldStays(t *testing.T) {
	s := "x\n" + varA + funcC + wrongF
	u := unit.New(s)
	l, places := u.Decls(), u.Junk()
	want := tell(l)
	for _, next := range []string{"", varB + s, s + varB, varA, funcC + varA} {
		scribbleOn(again(t, u, next).Decls())
		if tell(l) != want || !sameJunk(places, [][2]int{{0, 2}}) {
			t.Fatalf("%q: what was told became %v\n%s", next, places, tell(l))
		}
	}
}

// TestGreatPrograms: no limit is asked for here; many declarations, and great ones.
func TestGreatPrograms(t *testing.T) {
	const many = 4 * api.MaxText
	for _, x := range []struct {
		s     string
		decls int
	}{
		{strings.Repeat("var\n", many), many},
		{strings.Repeat(varA, many), many},
		{strings.Repeat("x", many), 0},
		{strings.Repeat("\n", many) + varA, 1},
		{"var a " + strings.Repeat("*", many) + "int", 1},
		{"func f() { return " + strings.Repeat("(", many), 1},
		{"func f() { return " + strings.Repeat("(", many) + "1" + strings.Repeat(")", many) + " }\n", 1},
		{"func f() " + strings.Repeat("{", many) + strings.Repeat("}", many), 1},
	} {
		u := unit.New(x.s)
		if got := len(u.Decls()); got != x.decls {
			t.Errorf("%.20q: %d declarations, not %d", x.s, got, x.decls)
		}
		for _, s := range []string{x.s, "x\n" + x.s, varB + x.s, x.s + "\n" + varB} {
			v := u.Again(s)
			want := x.decls
			if s == x.s+"\n"+varB && x.decls > 0 { // the last one's text has one byte more
				want--
			}
			if v.Kept() != want || v.Again(s).Kept() != len(v.Decls()) {
				t.Errorf("%.20q, read again as %.20q: %d, not %d", x.s, s, v.Kept(), want)
			}
		}
		if v := u.Again(""); v.Kept() != 0 || len(v.Decls()) != 0 {
			t.Errorf("%.20q: %d", x.s, v.Kept())
		}
	}
}

// toldRight holds declarations and junk against the model, of a goroutine's: that one goes on.
func toldRight(t *testing.T, u *unit.Unit) {
	want, places := modelDecls(u.Text())
	if l := u.Decls(); tell(l) != tell(want) || !sameJunk(u.Junk(), places) {
		t.Errorf("%q: %v\n%s", u.Text(), u.Junk(), tell(l))
	}
}

// TestAnswersHangOnArguments asks units in turn, and side by side: P1 and P2.
func TestAnswersHangOnArguments(t *testing.T) {
	n := numbers(5)
	var units []*unit.Unit
	for range 6 {
		s := strings.Join(n.list(12), "")
		units = append(units, unit.New(s), unit.New(varA+s).Again(s))
	}
	var group sync.WaitGroup
	for range 4 {
		group.Go(func() {
			for i, u := range units {
				toldRight(t, u)
				v := units[len(units)-1-i]
				a, b := u.Again(v.Text()), u.Again(v.Text())
				if a.Kept() != b.Kept() || !unit.Same(a.Decls(), b.Decls()) || !unit.Same(a.Decls(), v.Decls()) {
					t.Errorf("%q of %q: %d, then %d", v.Text(), u.Text(), a.Kept(), b.Kept())
				}
				scribbleOn(a.Decls())
				toldRight(t, u)
			}
		})
	}
	group.Wait()
}
