package parse_test

import (
	"reflect"
	"slices"
	"strings"
	"testing"

	"bolthole/api"
	"bolthole/parse"
	"bolthole/scan"
)

// numbers come in an order without a rule that a reader could see, but each time the same one.
type numbers uint32

// below is the next one, below a limit.
func (n *numbers) below(limit int) int {
	*n = *n*1664525 + 1013904223
	return int(*n>>8) % limit
}

// one is one of a list.
func (n *numbers) one(l ...string) string { return l[n.below(len(l))] }

// within holds P10.2: a part's Kids, and theirs, stand within it, one behind the other. What stands nowhere is `params`, or `result`, without Kids.
func within(t *testing.T, s string, p api.Part) {
	t.Helper()
	if p.From < 0 || p.To > len(s) || p.From >= p.To {
		t.Errorf("%q: %s stands from %d to %d", s, told(p), p.From, p.To)
	}
	at := p.From
	for _, k := range p.Kids {
		if (k.Kind == "params" || k.Kind == "result") && len(k.Kids) == 0 {
			if k.From != 0 || k.To != 0 {
				t.Errorf("%q: %s stands from %d to %d", s, told(k), k.From, k.To)
			}
			continue
		}
		if k.From < at || k.To > p.To {
			t.Errorf("%q: %s from %d to %d has %s from %d to %d", s, told(p), p.From, p.To, told(k), k.From, k.To)
		}
		at = k.To
		within(t, s, k)
	}
}

// same tells whether two parts are one; of lists without elements, nil or not.
func same(a, b api.Part) bool {
	return a.Kind == b.Kind && a.Text == b.Text && a.From == b.From && a.To == b.To && slices.EqualFunc(a.Kids, b.Kids, same)
}

// holdAnswer holds what Decl tells of a text against what it should tell; where it is wrong a word stands, or the text's end.
func holdAnswer(t *testing.T, s string, want api.Part, wantAt int, wantE api.Errno) {
	t.Helper()
	p, at, e := parse.Decl(s)
	if e != wantE || at != wantAt || !same(p, want) {
		t.Fatalf("Decl(%q): %s, %d, %v, not %s, %d, %v", s, placed(p), at, e, placed(want), wantAt, wantE)
	}
	switch e {
	case api.OK:
		within(t, s, p)
	case api.ErrSyntax:
		isFrom := func(x api.Token) bool { return x.From == at }
		if at != len(s) && !slices.ContainsFunc(scan.Scan(s), isFrom) {
			t.Errorf("Decl(%q): at %d stands no word", s, at)
		}
	}
}

// every goes through all texts of words behind a beginning, as far as each word but the last one may stand there.
type every struct {
	w                      *walker
	words                  []string
	right, wrong, tooShort int
}

// look looks at a text whose words were taken, and at those with up to so many more.
func (x *every) look(t *testing.T, s string, taken []api.Token, more int) {
	x.ended(t, s, taken)
	for _, word := range x.words {
		if more == 0 {
			return
		}
		longer := s + " " + word
		next := scan.Scan(longer)[len(taken)]
		if !x.w.take(next) {
			x.wrong++
			holdAnswer(t, longer, api.Part{}, len(s)+1, api.ErrSyntax)
			continue
		}
		x.look(t, longer, append(slices.Clip(taken), next), more-1)
		x.w.back(len(taken))
	}
}

// ended looks at a text as it is: a Semi may come at its end.
func (x *every) ended(t *testing.T, s string, taken []api.Token) {
	whole := x.w.whole()
	l := scan.Scan(s)
	if len(l) > len(taken) {
		whole = x.w.take(l[len(taken)]) && x.w.whole()
		x.w.back(len(taken))
	}
	if !whole {
		x.tooShort++
		holdAnswer(t, s, api.Part{}, len(s), api.ErrSyntax)
		return
	}
	x.right++
	holdAnswer(t, s, words(l).decl(), 0, api.OK)
}

const (
	allWords  = `func var type struct return if else for a new make 1 "s" ( ) { } [ ] . , ; = := & * - ! + == && || % : "`
	someWords = "a - * + ( ) { } [ ] . ; = if else"
)

// TestAllShortTexts has each word behind all that may stand ahead of it.
func TestAllShortTexts(t *testing.T) {
	right := 0
	for _, x := range []struct {
		beginning, words string
		most             int
	}{
		{"", allWords, 5},
		{"func f(", allWords, 4},
		{"func f(a T", allWords, 3},
		{"func f() ", allWords, 3},
		{"type T struct {", allWords, 4},
		{"type T struct { a T", allWords, 3},
		{"func f() {", allWords, 3},
		{"func f() { return", allWords, 3},
		{"func f() { if a", allWords, 3},
		{"func f() { if a { }", allWords, 3},
		{"func f() { for a { }", allWords, 3},
		{"func f() { a", allWords, 3},
		{"func f() { a = b", allWords, 3},
		{"func f() { a . b", allWords, 2},
		{"func f() { a [ b", allWords, 2},
		{"func f() { ( a", allWords, 3},
		{"func f() { f ( ", allWords, 3},
		{"func f() { f ( a", allWords, 3},
		{"func f() { new ( T", allWords, 2},
		{"func f() { make ( T", allWords, 3},
		{"func f() { }", allWords, 2},
		{"var x T", allWords, 2},
		{"func f() {", someWords, 5},
		{"func f() { a ", "a - + * == ( ) ; }", 6},
	} {
		l := scan.Scan(x.beginning + "+") // without a Semi at the end
		l = l[:len(l)-1]
		e := every{w: newWalker(readGrammar()), words: strings.Fields(x.words)}
		for _, word := range l {
			if !e.w.take(word) {
				t.Fatalf("%q", x.beginning)
			}
		}
		e.look(t, x.beginning, l, x.most)
		if e.wrong == 0 || e.right+e.tooShort == 0 {
			t.Errorf("%q: %d are right, %d wrong, %d too short", x.beginning, e.right, e.wrong, e.tooShort)
		}
		right += e.right
	}
	if right < 1000 {
		t.Errorf("%d are right", right)
	}
}

// made is the words of a form of the grammar's, behind so many forms, one within the other, as short as may be.
func (n *numbers) made(g grammar, form string, most int) []string {
	ways := g[form]
	if ways == nil {
		return []string{n.word(form)}
	}
	way := ways[n.below(len(ways))]
	if most <= 0 {
		way = ways[0] // this one never leads to itself
	}
	var l []string
	for _, x := range way {
		l = append(l, n.made(g, x, most-1)...)
	}
	return l
}

// word is one of a sort.
func (n *numbers) word(sort string) string {
	switch sort {
	case "Name":
		return n.one("a", "b", "c1", "_", "T", "new", "make")
	case "Called":
		return n.one("f", "g", "news")
	case "Figure":
		return n.one("0", "1", "23")
	case "Quote":
		return n.one(`""`, `"s"`, `"( ;"`, "\"\u05d0\"", `"//"`)
	case "Semi":
		return n.one(";", "\n", "\n\n", " // c\n")
	}
	return sort
}

// joined is words with blanks between.
func (n *numbers) joined(l []string) string {
	s := n.one("", "", " ", "\n", "\t\r")
	for _, word := range l {
		s += word + n.one(" ", " ", " ", " ", " ", " ", "\t", "  ", "\r")
	}
	return s
}

// changed is words with one more, one less, one for another, or two in another order.
func (n *numbers) changed(l []string) []string {
	l = slices.Clone(l)
	i, j := n.below(len(l)), n.below(len(l))
	other := n.one(append(strings.Fields(allWords), "\n", "\u05d0", "\xff", "//", "\"a\nb\"", "|", "/")...)
	switch n.below(5) {
	case 0:
		return slices.Insert(l, i, other)
	case 1:
		return slices.Delete(l, i, i+1)
	case 2:
		l[i] = other
	case 3:
		l[i], l[j] = l[j], l[i]
	case 4:
		return l[:i]
	}
	return l
}

// TestManyTexts has texts that the grammar makes, and such with words that are changed.
func TestManyTexts(t *testing.T) {
	g := readGrammar()
	n := numbers(10)
	many := map[api.Errno]int{}
	for range 6000 {
		l := n.made(g, "Text", 5+n.below(25))
		if len(l) > 120 {
			continue
		}
		for changes := range 4 {
			s := n.joined(l)
			want, wantAt, wantE := modelDecl(g, s)
			many[wantE]++
			if changes == 0 && wantE == api.ErrSyntax {
				t.Fatalf("%q: wrong at %d", s, wantAt)
			}
			holdAnswer(t, s, want, wantAt, wantE)
			if len(l) == 0 {
				break
			}
			l = n.changed(l)
		}
	}
	if many[api.OK] < 1000 || many[api.ErrSyntax] < 1000 {
		t.Errorf("%v", many)
	}
}

// TestAnyTexts has bytes of all sorts.
func TestAnyTexts(t *testing.T) {
	g := readGrammar()
	n := numbers(11)
	for many := range 20000 {
		var b strings.Builder
		for range many % 12 {
			b.WriteString(n.one("func", "var", "type", "x", " ", " ", "\n", "(", ")", "{", "}", ";", "int", "*", "[", "]", "\"", "//", "\xff", "\u05d0", "\x00", "struct", "1", "=", ":"))
		}
		s := b.String()
		want, wantAt, wantE := modelDecl(g, s)
		holdAnswer(t, s, want, wantAt, wantE)
	}
}

func TestNothing(t *testing.T) {
	for _, s := range []string{"", " ", "\n", "\t\r\n \n", "//", "// var x int", "// c\n", "\n// c\n// d\n\n"} {
		fails(t, s, len(s))
	}
}

func TestWrongTexts(t *testing.T) {
	failsAt(t, "^x", "^1", "^\"var x int\"", "^;", "^{}", "^}", "^)", "^package main", "^struct", "^return", "^if", "^else", "^for", "^vars x int", "^Var x int", "^var1 x int", " \n\t^x", "// c\n^x", "^\xff", "^\u05d0", "^\x00", "^\"", "^@",
		"var x int ^y", "var x int ^var y int", "var x int\n^var y int", "var x int; ^type T struct {}", "type T struct {} ^var x int", "func f() {} ^func g() {}", "func f() {}\n\n^func g() {}\n", "func f() {}; ^x", "func f() {}^)", "func f() {} ^1", "var x int // c\n^}",
		"var x ^\"", "var x ^\"int", "var x int ^\"\n", "func f() { ^\"a }", "func f() { a = ^\"a\n}", "func f() { a ^\" }", "func f() { f(^\") }",
		"var x ^@", "var x int^@", "var x int ^#", "func f() { a ^| b }", "func f() { a ^: b }", "func f() { a ^~ b }", "func f() { ^'a' }", "func f() { a ^? b }",
		"var x^\xff int", "var ^\xff x int", "var x int ^\xff", "var x int^\xff", "func f() { ^\x80 }", "func f() { a = ^\u05d0 }", "func f() { ^\xd7 \x90 }", "^\xef\xbb\xbfvar x int", "var x^\u00a0int", "var x int^\v", "var ^\u0430 int", "var x ^\u0660")
	// Where bytes are no words' they may be any.
	hold(t, "var x int // \xff\u05d0\x80", "var:x(name:int)")
	holdBody(t, "\"\xff\x80\"", "expr(str:\"\xff\x80\")")
	fails(t, "func f() { \"\xff\" \u05d0 }", 15)
}

// lists are all lists that a part has, over their whole room.
func lists(l ...api.Part) [][]api.Part {
	var all [][]api.Part
	for _, p := range l {
		if cap(p.Kids) > 0 {
			all = append(all, p.Kids[:cap(p.Kids)])
		}
		all = append(all, lists(p.Kids...)...)
	}
	return all
}

// apart holds lists to share no memory.
func apart(t *testing.T, l ...[]api.Part) {
	t.Helper()
	slices.SortFunc(l, func(a, b []api.Part) int {
		return int(reflect.ValueOf(a).Pointer()) - int(reflect.ValueOf(b).Pointer())
	})
	for i := range len(l) - 1 {
		end := reflect.ValueOf(l[i]).Pointer() + uintptr(cap(l[i]))*reflect.TypeFor[api.Part]().Size()
		if end > reflect.ValueOf(l[i+1]).Pointer() {
			t.Fatalf("two lists share memory: %v, %v", l[i], l[i+1])
		}
	}
}

// someTexts have parts of each kind.
var someTexts = []string{
	"var x []*int", "type T struct{a int;b T}\n", "func f(){}", "func f(a int, b []T) *T { var x T; return }",
	"func f() { *p.x[0] = &(y); a - b - c * d; x := new(*T); make([]int, n)[0] = g(1, \"s\", (h())) }",
	"func f() { if a { b } else if c {} else { return d }; for e { { {} } } }",
}

func TestListsApart(t *testing.T) {
	for _, s := range someTexts {
		p, q := part(t, s), part(t, s)
		want := placed(q)
		moved, all := parse.Shift(p, 0), parse.All(p)
		apart(t, slices.Concat(lists(p, q, moved), lists(all...), [][]api.Part{all[:cap(all)]})...)
		for _, l := range lists(p) {
			for i := range l {
				l[i] = api.Part{Kind: "x", Text: "y", From: -1, To: -2}
			}
		}
		if got := placed(q); got != want || !same(moved, q) || !same(all[0], q) || placed(part(t, s)) != want {
			t.Errorf("%q: %s, not %s", s, got, want)
		}
		for i, x := range all {
			for j, y := range parse.All(q) {
				if i == j && !same(x, y) {
					t.Errorf("%q: %s, not %s", s, placed(x), placed(y))
				}
			}
		}
	}
}

// TestAnswersHangOnArguments asks in turn, and side by side: P1 and P2.
func TestAnswersHangOnArguments(t *testing.T) {
	texts := append([]string{"", "x", "var x " + strings.Repeat("*", 39) + "T", "func f() { a b }", "var x"}, someTexts...)
	type answer struct {
		p  api.Part
		at int
		e  api.Errno
	}
	var first []answer
	for _, s := range texts {
		p, at, e := parse.Decl(s)
		first = append(first, answer{p, at, e})
	}
	done := make(chan bool)
	for range 4 {
		go func() {
			defer func() { done <- true }()
			for i, s := range slices.Backward(texts) {
				p, at, e := parse.Decl(s)
				if want := first[i]; !same(p, want.p) || at != want.at || e != want.e || parse.Deep(p) != modelDeep(want.p) {
					t.Errorf("Decl(%q): %s, %d, %v, then %s, %d, %v", s, placed(want.p), want.at, want.e, placed(p), at, e)
				}
			}
		}()
	}
	for range 4 {
		<-done
	}
}
