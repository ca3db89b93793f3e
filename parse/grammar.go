package parse

import "bolthole/api"

// brackets is the kind of what stands open while an expression between brackets is read.
const brackets = "("

// marks are those that may stand between two expressions, each with its strength: the weaker one holds more.
var marks = [...]struct {
	text     string
	strength int
}{
	{"||", 1}, {"&&", 2},
	{"==", 3}, {"!=", 3}, {"<", 3}, {"<=", 3}, {">", 3}, {">=", 3},
	{"+", 4}, {"-", 4},
	{"*", 5}, {"/", 5}, {"%", 5},
}

// strengthOf is a mark's strength, 0 of one that may not stand between two.
func strengthOf(text string) int {
	for _, m := range marks {
		if m.text == text {
			return m.strength
		}
	}
	return 0
}

func (r *reader) decl() {
	switch r.next().Text {
	case "func":
		r.begin("func")
		r.then(r.word("func"), r.name, r.params, r.result, r.block, r.end)
	case "var":
		r.varDecl()
	case "type":
		r.begin("type")
		r.then(r.word("type"), r.name, r.word("struct"), r.word("{"), r.lines(r.field), r.word("}"), r.end)
	default:
		r.fail()
	}
}

func (r *reader) varDecl() {
	r.begin("var")
	r.then(r.word("var"), r.name, r.typeOf, r.end)
}

func (r *reader) params() {
	r.begin("params")
	r.then(r.word("("), r.commas(r.param), r.word(")"), r.end)
}

func (r *reader) param() {
	r.begin("param")
	r.then(r.name, r.typeOf, r.end)
}

func (r *reader) field() {
	r.begin("field")
	r.then(r.name, r.typeOf, r.end)
}

func (r *reader) result() {
	r.begin("result")
	if r.is("{") {
		r.end()
		return
	}
	r.then(r.typeOf, r.end)
}

func (r *reader) typeOf() {
	switch r.next().Text {
	case "*":
		r.begin("star")
		r.then(r.word("*"), r.typeOf, r.end)
	case "[":
		r.begin("slice")
		r.then(r.word("["), r.word("]"), r.typeOf, r.end)
	default:
		r.begin("name")
		r.then(r.name, r.end)
	}
}

func (r *reader) block() {
	r.begin("block")
	r.then(r.word("{"), r.lines(r.stmt), r.word("}"), r.end)
}

// lines is the step that reads any number of items up to the end of a block, or of a struct, with Semis between, and maybe about them.
func (r *reader) lines(item func()) func() {
	return func() {
		r.semis()
		if !r.is("}") {
			r.then(item, r.moreLines(item))
		}
	}
}

// moreLines is the step that reads what stands behind an item: without a Semi there is no other one.
func (r *reader) moreLines(item func()) func() {
	return func() {
		if r.next().Word == api.Semi {
			r.then(r.lines(item))
		}
	}
}

// commas is the step that reads any number of items up to a bracket's end, with commas between.
func (r *reader) commas(item func()) func() {
	return func() {
		if !r.is(")") {
			r.then(item, r.moreCommas(item))
		}
	}
}

// moreCommas is the step that reads what stands behind an item: without a comma there is no other one.
func (r *reader) moreCommas(item func()) func() {
	return func() {
		if r.is(",") {
			r.then(r.word(","), item, r.moreCommas(item))
		}
	}
}

func (r *reader) stmt() {
	switch r.next().Text {
	case "var":
		r.varDecl()
	case "return":
		r.begin("return")
		r.then(r.word("return"), r.returned, r.end)
	case "if":
		r.ifStmt()
	case "for":
		r.begin("for")
		r.then(r.word("for"), r.expr, r.block, r.end)
	case "{":
		r.block()
	default:
		r.begin("expr")
		r.then(r.expr, r.assigned, r.end)
	}
}

func (r *reader) returned() {
	if r.next().Word != api.Semi && !r.is("}") {
		r.expr()
	}
}

func (r *reader) ifStmt() {
	r.begin("if")
	r.then(r.word("if"), r.expr, r.block, r.otherwise, r.end)
}

// otherwise reads what stands behind `else`, if that comes next.
func (r *reader) otherwise() {
	if r.is("else") {
		r.then(r.word("else"), r.ifOrBlock)
	}
}

func (r *reader) ifOrBlock() {
	if r.is("if") {
		r.ifStmt()
		return
	}
	r.block()
}

// assigned makes a statement of one expression one of two, if a mark comes next that asks for it.
func (r *reader) assigned() {
	switch r.next().Text {
	case "=":
		r.top().Kind = "assign"
	case ":=":
		r.top().Kind = "define"
	default:
		return
	}
	r.at++
	r.expr()
}

func (r *reader) expr() { r.then(r.prefix, r.between) }

// between reads a mark between two, and what stands behind it, if one comes next. What is open on top, and holds at least as much, ends ahead of it; whatever stands about the expression is no `binary`.
func (r *reader) between() {
	strength := strengthOf(r.next().Text)
	for r.top().Kind == "binary" && strengthOf(r.top().Text) >= strength {
		r.end()
	}
	if strength > 0 {
		r.wrap("binary")
		r.then(r.text, r.prefix, r.between)
	}
}

func (r *reader) prefix() {
	switch r.next().Text {
	case "&", "*", "-", "!":
		r.begin("unary")
		r.then(r.text, r.prefix, r.end)
	default:
		r.then(r.operand, r.behind)
	}
}

// behind reads what may stand behind an operand, one behind the other.
func (r *reader) behind() {
	switch r.next().Text {
	case ".":
		r.wrap("field")
		r.then(r.word("."), r.name, r.end, r.behind)
	case "[":
		r.wrap("index")
		r.then(r.word("["), r.expr, r.word("]"), r.end, r.behind)
	}
}

func (r *reader) operand() {
	switch r.next().Word {
	case api.Figure:
		r.begin("num")
		r.then(r.text, r.end)
	case api.Quote:
		r.begin("str")
		r.then(r.text, r.end)
	case api.Name:
		r.begin("id")
		r.then(r.name, r.called, r.end)
	default:
		r.begin(brackets)
		r.then(r.word("("), r.expr, r.word(")"), r.end)
	}
}

// called makes a name what is called by it, if a bracket comes next.
func (r *reader) called() {
	if !r.is("(") {
		return
	}
	r.at++
	switch p := r.top(); p.Text {
	case "new":
		p.Kind, p.Text = "new", ""
		r.then(r.typeOf, r.word(")"))
	case "make":
		p.Kind, p.Text = "make", ""
		r.then(r.typeOf, r.word(","), r.expr, r.word(")"))
	default:
		p.Kind = "call"
		r.then(r.commas(r.expr), r.word(")"))
	}
}
