package unit_test

import (
	"regexp"
	"strconv"
	"strings"
	"testing"

	"bolthole/api"
	"bolthole/parse"
	"bolthole/scan"
	"bolthole/unit"
)

// begins is where a declaration's line does.
var begins = regexp.MustCompile(`(?m)^(?:func|var|type)\b`)

// modelDecls are a program's declarations, and where its junk stands, by the chapter's words.
func modelDecls(s string) ([]unit.Decl, [][2]int) {
	var l []unit.Decl
	var junk [][2]int
	at := begins.FindAllStringIndex(s, -1)
	first := len(s)
	for i, span := range at {
		from, to := span[0], len(s)
		first = min(first, from)
		if i+1 < len(at) {
			to = at[i+1][0]
		}
		d := unit.Decl{From: from, To: to, Text: s[from:to]}
		d.Part, d.At, d.E = parse.Decl(d.Text)
		l = append(l, d)
	}
	if len(scan.Scan(s[:first])) > 0 {
		junk = append(junk, [2]int{0, first})
	}
	return l, junk
}

// modelKept is how many of a program's declarations may be kept of another one's, by their texts.
func modelKept(l, old []unit.Decl) int {
	switch {
	case len(l) == 0 || len(old) == 0:
		return 0
	case l[0].Text == old[0].Text:
		return 1 + modelKept(l[1:], old[1:])
	}
	return modelKeptAtEnd(l, old)
}

// modelKeptAtEnd is how many may be kept of the end alone.
func modelKeptAtEnd(l, old []unit.Decl) int {
	last, wasLast := len(l)-1, len(old)-1
	if last < 0 || wasLast < 0 || l[last].Text != old[wasLast].Text {
		return 0
	}
	return 1 + modelKeptAtEnd(l[:last], old[:wasLast])
}

// tell writes declarations with all that they have; of lists without elements, nil or not.
func tell(l []unit.Decl) string {
	var b strings.Builder
	for _, d := range l {
		b.WriteString(strconv.Itoa(d.From) + "-" + strconv.Itoa(d.To) + " " + strconv.Quote(d.Text) + " ")
		tellPart(&b, d.Part)
		b.WriteString(" " + strconv.Itoa(d.At) + " " + strconv.Itoa(int(d.E)) + "\n")
	}
	return b.String()
}

// tellPart writes a part with all that it has.
func tellPart(b *strings.Builder, p api.Part) {
	b.WriteString(strconv.Quote(p.Kind) + strconv.Quote(p.Text) + strconv.Itoa(p.From) + "-" + strconv.Itoa(p.To) + "(")
	for _, k := range p.Kids {
		tellPart(b, k)
	}
	b.WriteString(")")
}

// sameJunk tells whether two lists of places are one.
func sameJunk(a, b [][2]int) bool {
	if len(a) != len(b) {
		return false
	}
	for i := range a {
		if a[i] != b[i] {
			return false
		}
	}
	return true
}

// holdUnit holds all that a unit tells against the model.
func holdUnit(t *testing.T, u *unit.Unit, s string, kept int) {
	t.Helper()
	want, junk := modelDecls(s)
	if got := u.Decls(); tell(got) != tell(want) {
		t.Fatalf("%q: Decls:\n%snot\n%s", s, tell(got), tell(want))
	}
	if got := u.Junk(); !sameJunk(got, junk) {
		t.Fatalf("%q: Junk: %v, not %v", s, got, junk)
	}
	if got := u.Text(); got != s {
		t.Fatalf("Text: %q, not %q", got, s)
	}
	if got := u.Kept(); got != kept {
		t.Fatalf("%q: Kept: %d, not %d", s, got, kept)
	}
}

// again reads a program again of another one's unit, holds all that both tell against the model, and tells the one that was read.
func again(t *testing.T, u *unit.Unit, s string) *unit.Unit {
	t.Helper()
	was, wasKept := u.Text(), u.Kept()
	old, _ := modelDecls(was)
	want, _ := modelDecls(s)
	v := u.Again(s)
	holdUnit(t, v, s, modelKept(want, old))
	if u != nil {
		holdUnit(t, u, was, wasKept)
	}
	if !unit.Same(v.Decls(), unit.New(s).Decls()) {
		t.Fatalf("%q, read again of %q, isn't as afresh", s, was)
	}
	return v
}
