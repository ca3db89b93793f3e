package parse_test

import (
	"strings"

	"bolthole/api"
)

// chapter is the chapter's grammar: `?X` is X or nothing, `*X` is X any number of times, and Called a Name that, ahead of `(`, is neither `new` nor `make`.
const chapter = `
Text = Decl ?SEMI
SEMI = Semi *Semi
Decl = Func | Var | Type
Func = func Name ( ?Params ) ?TypeOf Block
Params = Param *NextParam
NextParam = , Param
Param = Name TypeOf
Var = var Name TypeOf
Type = type Name struct { ?SEMI ?Fields ?SEMI }
Fields = Param *NextField
NextField = SEMI Param
TypeOf = Name | * TypeOf | [ ] TypeOf
Block = { ?SEMI ?Stmts ?SEMI }
Stmts = Stmt *NextStmt
NextStmt = SEMI Stmt
Stmt = Var | return ?Expr | If | for Expr Block | Block | Expr ?Becoming
Becoming = = Expr | := Expr
If = if Expr Block ?Else
Else = else Block | else If
Expr = Prefix *NextPrefix
NextPrefix = Op Prefix
Op = || | && | == | != | < | <= | > | >= | + | - | * | / | %
Prefix = Operand *Behind | Ahead Prefix
Ahead = & | * | - | !
Behind = . Name | [ Expr ]
Operand = Figure | Quote | ( Expr ) | Name | Called ( ?Exprs ) | new ( TypeOf ) | make ( TypeOf , Expr )
Exprs = Expr *NextExpr
NextExpr = , Expr
`

// grammar has all ways of each form: which words, or forms, follow one another.
type grammar map[string][][]string

// readGrammar makes one of the chapter's lines.
func readGrammar() grammar {
	g := grammar{}
	for _, line := range strings.Split(strings.TrimSpace(chapter), "\n") {
		form, ways, _ := strings.Cut(line, " = ")
		for _, way := range strings.Split(ways, " | ") {
			l := strings.Fields(way)
			g[form] = append(g[form], l)
			g.addSome(l)
		}
	}
	return g
}

// addSome adds the forms `?X`, and `*X`, of a way.
func (g grammar) addSome(way []string) {
	for _, x := range way {
		switch {
		case maybeNothing(x) && x[0] == '?':
			g[x] = [][]string{{}, {x[1:]}}
		case maybeNothing(x):
			g[x] = [][]string{{}, {x, x[1:]}}
		}
	}
}

// maybeNothing tells whether a form may have no words.
func maybeNothing(form string) bool {
	return len(form) > 1 && (form[0] == '?' || form[0] == '*')
}

// fits tells whether a word is of a sort that a rule names.
func fits(t api.Token, sort string) bool {
	switch sort {
	case "Name":
		return t.Word == api.Name
	case "Called":
		return t.Word == api.Name && t.Text != "new" && t.Text != "make"
	case "new", "make":
		return t.Word == api.Name && t.Text == sort
	case "Figure":
		return t.Word == api.Figure
	case "Quote":
		return t.Word == api.Quote
	case "Semi":
		return t.Word == api.Semi
	}
	return (t.Word == api.Mark || t.Word == api.Key) && t.Text == sort
}

// item is how far a rule is gone, that was begun behind so many words.
type item struct {
	form        string
	way, at, by int
}

// items are all at one place: none twice.
type items struct {
	list []item
	seen map[item]bool
}

func (s *items) add(x item) {
	if !s.seen[x] {
		s.seen[x] = true
		s.list = append(s.list, x)
	}
}

// walker goes through words by a grammar, in all ways at once (as Earley's does).
type walker struct {
	g      grammar
	places []*items
}

func newWalker(g grammar) *walker {
	w := &walker{g: g}
	first := &items{seen: map[item]bool{}}
	for i := range g["Text"] {
		first.add(item{"Text", i, 0, 0})
	}
	w.places = []*items{first}
	w.close()
	return w
}

// close adds all that may begin, or has ended, at the last place.
func (w *walker) close() {
	here := len(w.places) - 1
	s := w.places[here]
	for i := 0; i < len(s.list); i++ {
		x := s.list[i]
		r := w.g[x.form][x.way]
		if x.at == len(r) {
			for _, y := range w.places[x.by].list {
				if q := w.g[y.form][y.way]; y.at < len(q) && q[y.at] == x.form {
					s.add(item{y.form, y.way, y.at + 1, y.by})
				}
			}
			continue
		}
		next := r[x.at]
		for way := range w.g[next] {
			s.add(item{next, way, 0, here})
		}
		if maybeNothing(next) {
			s.add(item{x.form, x.way, x.at + 1, x.by})
		}
	}
}

// take goes on by a word; it tells whether it may stand there, and else stays.
func (w *walker) take(t api.Token) bool {
	s := &items{seen: map[item]bool{}}
	for _, x := range w.places[len(w.places)-1].list {
		if r := w.g[x.form][x.way]; x.at < len(r) && w.g[r[x.at]] == nil && fits(t, r[x.at]) {
			s.add(item{x.form, x.way, x.at + 1, x.by})
		}
	}
	if len(s.list) == 0 {
		return false
	}
	w.places = append(w.places, s)
	w.close()
	return true
}

// back goes back to where so many words were taken.
func (w *walker) back(many int) { w.places = w.places[:many+1] }

// whole tells whether what was taken is a text of the grammar's.
func (w *walker) whole() bool {
	for _, x := range w.places[len(w.places)-1].list {
		if x.form == "Text" && x.by == 0 && x.at == len(w.g["Text"][x.way]) {
			return true
		}
	}
	return false
}

// wrongAt is the byte at which a word stands that no declaration could have there, or the text's length; -1 of a declaration.
func wrongAt(g grammar, l []api.Token, length int) int {
	w := newWalker(g)
	for _, t := range l {
		if !w.take(t) {
			return t.From
		}
	}
	if w.whole() {
		return -1
	}
	return length
}
