package show

import (
	"strings"

	"bolthole/api"
)

// writer writes parts' texts, one behind the other.
type writer struct {
	strings.Builder
	texts  map[string]func(*writer, api.Part) // by kinds
	indent int                                // of what is written now
}

// textsOfKinds are how each kind's text is written.
func textsOfKinds() map[string]func(*writer, api.Part) {
	return map[string]func(*writer, api.Part){
		"func":   (*writer).funcDecl,
		"var":    (*writer).varDecl,
		"type":   (*writer).typeDecl,
		"param":  (*writer).named,
		"name":   (*writer).word,
		"id":     (*writer).word,
		"num":    (*writer).word,
		"str":    (*writer).word,
		"star":   (*writer).star,
		"slice":  (*writer).slice,
		"block":  (*writer).block,
		"return": (*writer).returnStmt,
		"if":     (*writer).ifStmt,
		"for":    (*writer).forStmt,
		"assign": (*writer).assign,
		"define": (*writer).define,
		"expr":   (*writer).expr,
		"unary":  (*writer).unary,
		"binary": (*writer).binary,
		"call":   (*writer).call,
		"field":  (*writer).field,
		"index":  (*writer).index,
		"new":    (*writer).newCall,
		"make":   (*writer).makeCall,
	}
}

// part writes a part's text, if its kind has one.
func (w *writer) part(p api.Part) {
	if text, ok := w.texts[p.Kind]; ok {
		text(w, p)
	}
}

// write writes what is handed in.
func (w *writer) write(texts ...string) {
	for _, s := range texts {
		w.WriteString(s)
	}
}

// kid writes a Kid's text, if it is there.
func (w *writer) kid(p api.Part, i int) { w.part(kidOf(p, i)) }

// held writes a part's text, in brackets if it would not hold together without.
func (w *writer) held(p api.Part, brackets bool) {
	if !brackets {
		w.part(p)
		return
	}
	w.write("(")
	w.part(p)
	w.write(")")
}

// commas writes parts' texts with commas between.
func (w *writer) commas(l []api.Part) {
	for i, p := range l {
		if i > 0 {
			w.write(", ")
		}
		w.part(p)
	}
}

// lines writes parts between braces, each on a line of its own, as if so many blocks stood about these.
func (w *writer) lines(l []api.Part, indent int, item func(api.Part)) {
	about := w.indent
	w.write("{")
	w.indent = indent + 1
	for _, p := range l {
		w.newLine()
		item(p)
	}
	w.indent = indent
	if len(l) > 0 {
		w.newLine()
	}
	w.write("}")
	w.indent = about
}

// newLine ends a line, and begins another one.
func (w *writer) newLine() {
	w.write("\n", strings.Repeat("\t", w.indent))
}

// word writes a part that is its Text.
func (w *writer) word(p api.Part) { w.write(p.Text) }

// named writes a name, and its type.
func (w *writer) named(p api.Part) {
	w.write(p.Text, " ")
	w.kid(p, 0)
}

func (w *writer) varDecl(p api.Part) {
	w.write("var ")
	w.named(p)
}

func (w *writer) funcDecl(p api.Part) {
	w.write("func ", p.Text, "(")
	w.commas(kidOf(p, 0).Kids)
	w.write(") ")
	if result := kidOf(p, 1); len(result.Kids) > 0 {
		w.kid(result, 0)
		w.write(" ")
	}
	w.kid(p, 2)
}

func (w *writer) typeDecl(p api.Part) {
	w.write("type ", p.Text, " struct ")
	w.lines(p.Kids, 0, w.declared)
}

// declared writes what a struct has: a `field` is there another thing than elsewhere.
func (w *writer) declared(p api.Part) {
	if p.Kind == "field" {
		w.named(p)
		return
	}
	w.part(p)
}

func (w *writer) star(p api.Part) {
	w.write("*")
	w.kid(p, 0)
}

func (w *writer) slice(p api.Part) {
	w.write("[]")
	w.kid(p, 0)
}

func (w *writer) block(p api.Part) { w.lines(p.Kids, w.indent, w.part) }

func (w *writer) returnStmt(p api.Part) {
	w.write("return")
	if len(p.Kids) > 0 {
		w.write(" ")
		w.kid(p, 0)
	}
}

func (w *writer) ifStmt(p api.Part) {
	w.write("if ")
	w.two(p, " ")
	if len(p.Kids) > 2 {
		w.write(" else ")
		w.kid(p, 2)
	}
}

func (w *writer) forStmt(p api.Part) {
	w.write("for ")
	w.two(p, " ")
}

func (w *writer) assign(p api.Part) { w.two(p, " = ") }

func (w *writer) define(p api.Part) { w.two(p, " := ") }

// two writes the first Kid's text, and the second one's, with a text between.
func (w *writer) two(p api.Part, between string) {
	w.kid(p, 0)
	w.write(between)
	w.kid(p, 1)
}

func (w *writer) expr(p api.Part) { w.kid(p, 0) }

func (w *writer) unary(p api.Part) {
	of := kidOf(p, 0)
	w.write(p.Text)
	w.held(of, of.Kind == "binary" || takesAddress(p) && takesAddress(of)) // side by side two & would be one mark
}

func (w *writer) binary(p api.Part) {
	strength := strengthOf(p.Text)
	left, right := kidOf(p, 0), kidOf(p, 1)
	w.held(left, left.Kind == "binary" && strengthOf(left.Text) < strength)
	w.write(" ", p.Text, " ")
	w.held(right, right.Kind == "binary" && strengthOf(right.Text) <= strength)
}

func (w *writer) call(p api.Part) { w.called(p.Text, p) }

func (w *writer) newCall(p api.Part) { w.called("new", p) }

func (w *writer) makeCall(p api.Part) { w.called("make", p) }

// called writes a name, and a part's Kids in brackets.
func (w *writer) called(name string, p api.Part) {
	w.write(name, "(")
	w.commas(p.Kids)
	w.write(")")
}

// field writes one that is no struct's.
func (w *writer) field(p api.Part) {
	w.operand(kidOf(p, 0))
	w.write(".", p.Text)
}

func (w *writer) index(p api.Part) {
	w.operand(kidOf(p, 0))
	w.write("[")
	w.kid(p, 1)
	w.write("]")
}

// operand writes what a `.`, or a `[`, stands behind: these hold stronger than all marks.
func (w *writer) operand(p api.Part) {
	w.held(p, p.Kind == "binary" || p.Kind == "unary")
}

// kidOf is a part's Kid; one that is not there is of no kind, so it has no text.
func kidOf(p api.Part, i int) api.Part {
	if i < len(p.Kids) {
		return p.Kids[i]
	}
	return api.Part{}
}

// takesAddress tells whether a part is a `unary` of the mark &.
func takesAddress(p api.Part) bool { return p.Kind == "unary" && p.Text == "&" }

// strengthOf is a mark's between two, 0 of one that is none: the weaker one holds more.
func strengthOf(mark string) int {
	switch mark {
	case "||":
		return 1
	case "&&":
		return 2
	case "==", "!=", "<", "<=", ">", ">=":
		return 3
	case "+", "-":
		return 4
	case "*", "/", "%":
		return 5
	}
	return 0
}
