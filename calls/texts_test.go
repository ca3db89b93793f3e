package calls_test

import (
	"slices"
	"strconv"
	"strings"
	"testing"

	"bolthole/api"
	"bolthole/calls"
)

// writer writes functions' texts, and knows whom what it wrote calls.
type writer struct {
	numbers
	called []string
}

// one is one of a list.
func (w *writer) one(l ...string) string { return l[w.below(len(l))] }

// name is one of few.
func (w *writer) name() string { return w.one("f", "g", "h", "ff", "F", "_", "f0", "news") }

// operand is an expression that calls nobody.
func (w *writer) operand() string {
	return w.one(w.name(), "1", "\"f()\"", "new("+w.name()+")", "x."+w.name(), "(nil)", "make([]"+w.name()+", 2)")
}

// expr is an expression, nested so deep at most.
func (w *writer) expr(deep int) string {
	if deep == 0 {
		return w.operand()
	}
	switch w.below(6) {
	case 0:
		return w.one("-", "& ", "*", "!") + w.expr(deep-1)
	case 1:
		return "(" + w.expr(deep-1) + w.one(" + ", " < ", " && ") + w.expr(deep-1) + ")"
	case 2:
		return "x[" + w.expr(deep-1) + "].f"
	case 3:
		return "make(f, " + w.expr(deep-1) + ")"
	}
	name := w.name()
	w.called = append(w.called, name)
	var l []string
	for range w.below(3) {
		l = append(l, w.expr(deep-1))
	}
	return name + "(" + strings.Join(l, ", ") + ")"
}

// statement is one, nested so deep at most.
func (w *writer) statement(deep int) string {
	if deep > 0 {
		switch w.below(6) {
		case 0:
			return "if " + w.expr(2) + " " + w.block(deep-1)
		case 1:
			return "if " + w.expr(2) + " " + w.block(deep-1) + " else " + w.block(deep-1)
		case 2:
			return "for " + w.expr(2) + " " + w.block(deep-1)
		case 3:
			return w.block(deep - 1)
		}
	}
	switch w.below(6) {
	case 0:
		return w.one("return", "var x f", "x // g()")
	case 1:
		return "return " + w.expr(3)
	case 2:
		return w.expr(2) + w.one(" = ", " := ") + w.expr(3)
	}
	return w.expr(3)
}

// block is one of some statements.
func (w *writer) block(deep int) string {
	s := "{\n"
	for range w.below(4) {
		s += w.statement(deep) + "\n"
	}
	return s + "}"
}

// function is one's text; what was called ahead of it is not known any more.
func (w *writer) function() string {
	w.called = nil
	return "func " + w.name() + "(a " + w.name() + ") " + w.name() + " " + w.block(3)
}

// TestOfTexts: P15.1, G1: Of, of functions' texts of all sorts, whose calls are known.
func TestOfTexts(t *testing.T) {
	w := &writer{numbers: 8}
	none, many := 0, 0
	for range 3000 {
		s := w.function()
		p := decl(t, s)
		slices.Sort(w.called)
		want := slices.Compact(w.called)
		if got := calls.Of(p); !slices.Equal(got, want) || !slices.Equal(got, modelOf(p)) {
			t.Fatalf("%s: Of:%s, not%s", s, tellNames(got), tellNames(want))
		}
		if len(want) == 0 {
			none++
		}
		many += len(want)
	}
	if none < 300 || many < 3000 {
		t.Errorf("%d call nobody; %d names", none, many)
	}
}

// odd is a part of any kind, with any Text and any Kids, nested so deep at most; behind its list's length stands another call.
func (w *writer) odd(deep int) api.Part {
	p := api.Part{Kind: w.one("call", "call", "func", "block", "id", "new", "type", "params", "", "Call", "\xff"), Text: w.one("", "a", "b", "call", "\x80", "\xff", "a b"), From: w.below(9) - 4, To: w.below(9) - 4}
	if deep > 0 {
		for range w.below(4) {
			p.Kids = append(p.Kids, w.odd(deep-1))
		}
	}
	p.Kids = append(p.Kids, part("call", "behind"))[:len(p.Kids)]
	return p
}

// tellPart writes a part with all that it has, and what stands behind its lists' lengths.
func tellPart(b *strings.Builder, p api.Part) {
	b.WriteString(strconv.Quote(p.Kind) + strconv.Quote(p.Text) + strconv.Itoa(p.From) + "-" + strconv.Itoa(p.To) + "," + strconv.Itoa(len(p.Kids)) + "(")
	for _, k := range p.Kids[:cap(p.Kids)] {
		tellPart(b, k)
	}
	b.WriteString(")")
}

// TestOfOddParts has parts made by hand, which stay as they were, over their lists' whole room: Rule 4.
func TestOfOddParts(t *testing.T) {
	w := &writer{numbers: 3}
	for many := range 4000 {
		p := w.odd(many % 6)
		var was, now strings.Builder
		tellPart(&was, p)
		got, want := calls.Of(p), modelOf(p)
		tellPart(&now, p)
		if now.String() != was.String() {
			t.Fatalf("%s became %s", was.String(), now.String())
		}
		if !slices.Equal(got, want) || !slices.Equal(calls.Of(p), want) {
			t.Fatalf("%s: Of:%s, not%s", was.String(), tellNames(got), tellNames(want))
		}
		scribbleNames(got)
		if again := calls.Of(p); !slices.Equal(again, want) {
			t.Fatalf("%s: Of:%s, not%s", was.String(), tellNames(again), tellNames(want))
		}
		// What is answered stays as it is, whatever is written into the part.
		told := calls.Of(p)
		for i := range p.Kids {
			p.Kids[i] = part("call", "z")
		}
		if !slices.Equal(told, want) {
			t.Fatalf("%s: Of became%s", was.String(), tellNames(told))
		}
	}
}

// TestOfGreatParts has parts nested as deep as anything is promised of, and wide ones: P1.
func TestOfGreatParts(t *testing.T) {
	const deep = 1 << 16
	p := part("call", "z")
	for i := range deep - 1 {
		kind := "call"
		if i%3 == 0 {
			kind = "block"
		}
		p = part(kind, string(rune('a'+i%20)), p, part("id", "y"))
	}
	want := strings.Fields("a b c d e f g h i j k l m n o p q r s t z")
	if got := calls.Of(p); !slices.Equal(got, want) {
		t.Errorf("Of:%s", tellNames(got))
	}
	wide := part("block", "", slices.Repeat([]api.Part{part("expr", "", part("call", "b")), part("call", "a")}, 1<<19)...)
	if got := calls.Of(wide); !slices.Equal(got, []string{"a", "b"}) {
		t.Errorf("Of:%s", tellNames(got))
	}
	var all []api.Part
	for i := range 1 << 16 {
		all = append(all, part("call", strings.Repeat("a", i%300)+string(rune('a'+i%26))))
	}
	if got := calls.Of(part("", "", all...)); !slices.IsSorted(got) || !slices.Equal(got, modelOf(part("", "", all...))) {
		t.Errorf("Of: %d", len(got))
	}
}
