package parse_test

import (
	"slices"
	"strings"

	"bolthole/api"
	"bolthole/scan"
)

// The model makes parts of words that are known to be a declaration's: it looks for brackets, and for marks between them, and takes the words apart there.

// words are some of a declaration's.
type words []api.Token

// is tells whether one of the words is a mark, or a key.
func (l words) is(at int, text string) bool {
	return 0 <= at && at < len(l) && (l[at].Word == api.Mark || l[at].Word == api.Key) && l[at].Text == text
}

// isOne tells whether one of the words is one of some marks.
func (l words) isOne(at int, texts string) bool {
	return slices.ContainsFunc(strings.Fields(texts), func(text string) bool { return l.is(at, text) })
}

// outside are which words stand outside of all brackets, these themselves among them.
func (l words) outside() []int {
	var all []int
	deep := 0
	for i := range l {
		if l.isOne(i, ") ] }") {
			deep--
		}
		if deep == 0 {
			all = append(all, i)
		}
		if l.isOne(i, "( [ {") {
			deep++
		}
	}
	return all
}

// split are what stands between words that a function tells, outside of brackets; what has no words is none.
func (l words) split(between func(api.Token) bool) []words {
	var all []words
	from := 0
	for _, i := range append(l.outside(), len(l)) {
		if i == len(l) || between(l[i]) {
			if i > from {
				all = append(all, l[from:i])
			}
			from = i + 1
		}
	}
	return all
}

func isSemi(t api.Token) bool  { return t.Word == api.Semi }
func isComma(t api.Token) bool { return t.Word == api.Mark && t.Text == "," }

// first is which word outside of brackets is the first one of some marks; -1 if none is.
func (l words) first(texts string) int {
	for _, i := range l.outside() {
		if l.isOne(i, texts) {
			return i
		}
	}
	return -1
}

// last is likewise the last one.
func (l words) last(texts string) int {
	for _, i := range slices.Backward(l.outside()) {
		if l.isOne(i, texts) {
			return i
		}
	}
	return -1
}

// part is one that has all of the words.
func (l words) part(kind, text string, kids ...api.Part) api.Part {
	return api.Part{Kind: kind, Text: text, From: l[0].From, To: l[len(l)-1].To, Kids: kids}
}

// listed is a part that stands where its Kids do.
func listed(kind string, kids ...api.Part) api.Part {
	p := api.Part{Kind: kind, Kids: kids}
	if len(kids) > 0 {
		p.From, p.To = kids[0].From, kids[len(kids)-1].To
	}
	return p
}

// each makes parts of all of a list.
func each(l []words, part func(words) api.Part) []api.Part {
	var all []api.Part
	for _, x := range l {
		all = append(all, part(x))
	}
	return all
}

func (l words) decl() api.Part {
	for isSemi(l[len(l)-1]) {
		l = l[:len(l)-1]
	}
	switch l[0].Text {
	case "var":
		return l.varDecl()
	case "type":
		return l.part("type", l[1].Text, each(l[4:len(l)-1].split(isSemi), words.field)...)
	}
	end, block := l.first(")"), l.first("{")
	result := listed("result")
	if end+1 < block {
		result = listed("result", l[end+1:block].typeOf())
	}
	return l.part("func", l[1].Text, listed("params", each(l[3:end].split(isComma), words.param)...), result, l[block:].block())
}

func (l words) varDecl() api.Part { return l.part("var", l[1].Text, l[2:].typeOf()) }
func (l words) param() api.Part   { return l.part("param", l[0].Text, l[1:].typeOf()) }
func (l words) field() api.Part   { return l.part("field", l[0].Text, l[1:].typeOf()) }

func (l words) typeOf() api.Part {
	switch l[0].Text {
	case "*":
		return l.part("star", "", l[1:].typeOf())
	case "[":
		return l.part("slice", "", l[2:].typeOf())
	}
	return l.part("name", l[0].Text)
}

func (l words) block() api.Part {
	return l.part("block", "", each(l[1:len(l)-1].split(isSemi), words.stmt)...)
}

func (l words) stmt() api.Part {
	switch l[0].Text {
	case "var":
		return l.varDecl()
	case "return":
		if len(l) == 1 {
			return l.part("return", "")
		}
		return l.part("return", "", l[1:].expr())
	case "if":
		return l.ifStmt()
	case "for":
		block := l.first("{")
		return l.part("for", "", l[1:block].expr(), l[block:].block())
	case "{":
		return l.block()
	}
	if i := l.first("= :="); i > 0 {
		kind := map[string]string{"=": "assign", ":=": "define"}[l[i].Text]
		return l.part(kind, "", l[:i].expr(), l[i+1:].expr())
	}
	return l.part("expr", "", l.expr())
}

func (l words) ifStmt() api.Part {
	block, end := l.first("{"), l.first("}")
	kids := []api.Part{l[1:block].expr(), l[block : end+1].block()}
	if end+1 < len(l) { // `else`
		kids = append(kids, l[end+2:].stmt())
	}
	return l.part("if", "", kids...)
}

// strengths are the marks between two, the weakest ones first.
var strengths = []string{"||", "&&", "== != < <= > >=", "+ -", "* / %"}

// between is which word is the mark that holds most: of the weakest ones the last; -1 if none is. A mark between two stands behind what may end an expression.
func (l words) between() int {
	for _, texts := range strengths {
		for _, i := range slices.Backward(l.outside()) {
			if i > 0 && l.isOne(i, texts) && (l[i-1].Word != api.Mark || l.isOne(i-1, ") ]")) {
				return i
			}
		}
	}
	return -1
}

func (l words) expr() api.Part {
	for l.is(0, "(") && l.first(")") == len(l)-1 {
		l = l[1 : len(l)-1]
	}
	if i := l.between(); i > 0 {
		return l.part("binary", l[i].Text, l[:i].expr(), l[i+1:].expr())
	}
	if l.isOne(0, "& * - !") {
		return l.part("unary", l[0].Text, l[1:].expr())
	}
	last := len(l) - 1
	switch {
	case l.is(last-1, "."):
		return l.part("field", l[last].Text, l[:last-1].expr())
	case l.is(last, "]"):
		i := l.last("[")
		return l.part("index", "", l[:i].expr(), l[i+1:last].expr())
	case last > 0:
		return l.called(l[2:last].split(isComma))
	}
	kinds := map[api.Word]string{api.Figure: "num", api.Quote: "str", api.Name: "id"}
	return l.part(kinds[l[0].Word], l[0].Text)
}

// called is what is called by a name, with some between the brackets.
func (l words) called(inner []words) api.Part {
	switch l[0].Text {
	case "new":
		return l.part("new", "", inner[0].typeOf())
	case "make":
		return l.part("make", "", inner[0].typeOf(), inner[1].expr())
	}
	return l.part("call", l[0].Text, each(inner, words.expr)...)
}

// modelDeep is how deep a part is nested.
func modelDeep(p api.Part) int {
	deep := 0
	for _, k := range p.Kids {
		deep = max(deep, modelDeep(k))
	}
	return deep + 1
}

// modelDecl is what Decl tells, by the chapter's words.
func modelDecl(g grammar, s string) (api.Part, int, api.Errno) {
	l := scan.Scan(s)
	if at := wrongAt(g, l, len(s)); at >= 0 {
		return api.Part{}, at, api.ErrSyntax
	}
	p := words(l).decl()
	if modelDeep(p) > api.MaxNest {
		return api.Part{}, 0, api.ErrDeep
	}
	return p, 0, api.OK
}
