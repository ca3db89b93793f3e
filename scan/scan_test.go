package scan_test

import (
	"fmt"
	"math"
	"slices"
	"strings"
	"testing"

	"bolthole/api"
	"bolthole/scan"
)

// keys are all of them.
var keys = []string{"func", "var", "type", "struct", "return", "if", "else", "for"}

// pairs are the marks of two bytes, singles those of one.
var (
	pairs   = []string{":=", "==", "!=", "<=", ">=", "&&", "||"}
	singles = strings.Fields("( ) { } [ ] , . = < > + - * / % & !")
)

// kinds are as many as there are, and some that there are not.
var kinds = []api.Word{api.Name, api.Figure, api.Quote, api.Key, api.Mark, api.Semi, -1, 6, 7, math.MinInt, math.MaxInt}

// The makers of words: of a kind, a text, and where that begins.

func word(kind api.Word, text string, from int) api.Token {
	return api.Token{Word: kind, Text: text, From: from, To: from + len(text)}
}

func name(text string, from int) api.Token   { return word(api.Name, text, from) }
func figure(text string, from int) api.Token { return word(api.Figure, text, from) }
func quote(text string, from int) api.Token  { return word(api.Quote, text, from) }
func key(text string, from int) api.Token    { return word(api.Key, text, from) }
func mark(text string, from int) api.Token   { return word(api.Mark, text, from) }

// semi is a `;`, lineEnd a Semi at a byte 10, end one at the end.
func semi(from int) api.Token    { return word(api.Semi, ";", from) }
func lineEnd(from int) api.Token { return api.Token{Word: api.Semi, From: from, To: from + 1} }
func end(at int) api.Token       { return api.Token{Word: api.Semi, From: at, To: at} }

// told tells words, with their texts quoted.
func told(l ...api.Token) string {
	s := ""
	for _, x := range l {
		s += fmt.Sprintf("{%d %q %d %d}", x.Word, x.Text, x.From, x.To)
	}
	return "[" + s + "]"
}

// program is one, and its words.
type program struct {
	text  string
	words []api.Token
}

// hold holds the words of programs against those that they should have.
func hold(t *testing.T, l ...program) {
	t.Helper()
	for _, p := range l {
		if got := scan.Scan(p.text); !slices.Equal(got, p.words) {
			t.Errorf("Scan(%q): %s, not %s", p.text, told(got...), told(p.words...))
		}
	}
}

// list is words as a list.
func list(l ...api.Token) []api.Token { return l }

func TestNoWords(t *testing.T) {
	for _, s := range []string{
		"", " ", "\t", "\r", "\n", " \t\r\n", "\n\n\n", "\r\n\r\n",
		"//", "// a", "//a\n", "//\n//\n", "///", "////\n", " // \"a\" ; return )\n\t// b", "\n//\xff\u05d0", "//a//b\r\n",
	} {
		hold(t, program{s, nil})
	}
}

func TestBlanksBetween(t *testing.T) {
	for _, s := range []string{" ", "\t", "\r", " \t\r \r\t "} {
		n := len(s)
		hold(t,
			program{s + "a" + s, list(name("a", n), end(2*n+1))},
			program{"a" + s + "b", list(name("a", 0), name("b", 1+n), end(2+n))},
			program{":" + s + "=", list(mark(":", 0), mark("=", 1+n))},
			program{"/" + s + "/", list(mark("/", 0), mark("/", 1+n))},
			program{"a" + s + "\n" + s + "b", list(name("a", 0), lineEnd(1+n), name("b", 2+2*n), end(3+2*n))},
		)
	}
	// Other bytes below 32 are no blanks.
	for _, s := range []string{"\x00", "\x01", "\x08", "\x0b", "\x0c", "\x0e", "\x1f", "\x7f"} {
		hold(t, program{s + "a" + s, list(mark(s, 0), name("a", 1), mark(s, 2))})
	}
}

func TestComments(t *testing.T) {
	hold(t,
		program{"a// b\n1", list(name("a", 0), lineEnd(5), figure("1", 6), end(7))},
		program{"a // b", list(name("a", 0), end(6))},
		program{"+ // b\n1", list(mark("+", 0), figure("1", 7), end(8))},
		program{"// b\n1", list(figure("1", 5), end(6))},
		program{"a//", list(name("a", 0), end(3))},
		program{"a///b", list(name("a", 0), end(5))},
		program{"a // \"b\nc\"", list(name("a", 0), lineEnd(7), name("c", 8), mark("\"", 9))},
		program{"// a // b\r\nc", list(name("c", 11), end(12))},
		program{"a //\u05d0\U0001f600\nb", list(name("a", 0), lineEnd(10), name("b", 11), end(12))},
		program{"a //\xff\nb", list(name("a", 0), lineEnd(5), name("b", 6), end(7))},
		program{"return // b\n// c\n\nd", list(key("return", 0), lineEnd(11), name("d", 18), end(19))},
		program{"a // b\n// c\n// d", list(name("a", 0), lineEnd(6))},
		program{"a // b // c", list(name("a", 0), end(11))},
	)
}

func TestStrokes(t *testing.T) {
	hold(t,
		program{"/", list(mark("/", 0))},
		program{"a/", list(name("a", 0), mark("/", 1))},
		program{"/a", list(mark("/", 0), name("a", 1), end(2))},
		program{"a/b", list(name("a", 0), mark("/", 1), name("b", 2), end(3))},
		program{"/*/", list(mark("/", 0), mark("*", 1), mark("/", 2))},
		program{"/\n/", list(mark("/", 0), mark("/", 2))},
		program{"/=", list(mark("/", 0), mark("=", 1))},
		program{"/ //", list(mark("/", 0))},
		program{"\"/", list(mark("\"", 0), mark("/", 1))},
	)
}

// TestNames has figures and `_` within, all letters, and each Key, with more and with less.
func TestNames(t *testing.T) {
	for _, s := range []string{
		"a", "z", "A", "Z", "_", "__", "_1", "a1", "a1b2", "x_y", "A_9_z", "abcdefghijklmnopqrstuvwxyz", "ABCDEFGHIJKLMNOPQRSTUVWXYZ", "a0123456789",
		"int", "new", "make", "nil", "package", "import", "Func", "FOR", "iff", strings.Repeat("a", 1000),
	} {
		hold(t, program{s, list(name(s, 0), end(len(s)))})
	}
	for _, k := range keys {
		words := list(key(k, 0))
		if k == "return" {
			words = append(words, end(len(k)))
		}
		hold(t, program{k, words})
		for _, s := range []string{k + "a", k + "_", k + "0", "a" + k, "_" + k, k + k, k[1:], k[:len(k)-1], strings.ToUpper(k[:1]) + k[1:]} {
			hold(t, program{s, list(name(s, 0), end(len(s)))})
		}
		hold(t, program{"0" + k + ".", list(figure("0", 0), key(k, 1), mark(".", 1+len(k)))})
	}
	// What stands beside letters and figures in the order of bytes is neither.
	for _, s := range []string{"@", "`", "^", "#", "$", "?", "~", "\\", "'"} {
		hold(t, program{"a" + s + "b", list(name("a", 0), mark(s, 1), name("b", 2), end(3))})
	}
}

func TestFigures(t *testing.T) {
	for _, s := range []string{"0", "9", "00", "0123456789", strings.Repeat("7", 1000)} {
		n := len(s)
		hold(t,
			program{s, list(figure(s, 0), end(n))},
			program{s + "a", list(figure(s, 0), name("a", n), end(n+1))},
			program{s + "_1", list(figure(s, 0), name("_1", n), end(n+2))},
			program{s + "if", list(figure(s, 0), key("if", n))},
			program{s + "x1 1", list(figure(s, 0), name("x1", n), figure("1", n+3), end(n+4))},
			program{"-" + s + ".5", list(mark("-", 0), figure(s, 1), mark(".", n+1), figure("5", n+2), end(n+3))},
		)
	}
	hold(t, program{"\u0660", list(mark("\u0660", 0))}) // a figure of another script
}

func TestQuotes(t *testing.T) {
	for _, s := range []string{
		`""`, `"a"`, `" "`, `"//"`, `"a // b"`, `"return ;"`, `"\"`, `"'"`, "\"\t\r\x00\"", "\"\u05d0\u6587\U0001f600\"", "\"\x80\xff\"", `"` + strings.Repeat("a", 1000) + `"`,
	} {
		n := len(s)
		hold(t,
			program{s, list(quote(s, 0), end(n))},
			program{s + "// \"", list(quote(s, 0), end(n+4))},
			program{"a" + s + "b", list(name("a", 0), quote(s, 1), name("b", n+1), end(n+2))},
			program{s + s, list(quote(s, 0), quote(s, n), end(2*n))},
			program{s + "\"", list(quote(s, 0), mark("\"", n))},
			program{s + "\n\"", list(quote(s, 0), lineEnd(n), mark("\"", n+1))},
		)
	}
}

// TestQuotesWithoutEnd has `"` that nothing ends on its line, or in the text.
func TestQuotesWithoutEnd(t *testing.T) {
	hold(t,
		program{`"`, list(mark(`"`, 0))},
		program{`"a`, list(mark(`"`, 0), name("a", 1), end(2))},
		program{`a"`, list(name("a", 0), mark(`"`, 1))},
		program{"\"\n", list(mark(`"`, 0))},
		program{"\"\n\"", list(mark(`"`, 0), mark(`"`, 2))},
		program{"\"a\n\"b\"", list(mark(`"`, 0), name("a", 1), lineEnd(2), quote(`"b"`, 3), end(6))},
		program{"\"a\nb\"", list(mark(`"`, 0), name("a", 1), lineEnd(2), name("b", 3), mark(`"`, 4))},
		program{"\"a // b\n;", list(mark(`"`, 0), name("a", 1), lineEnd(7), semi(8))},
		program{"\" // \"", list(quote(`" // "`, 0), end(6))},
		program{"\"//\n\"", list(mark(`"`, 0), mark(`"`, 4))},
		program{`"""`, list(quote(`""`, 0), mark(`"`, 2))},
		program{`"\"a`, list(quote(`"\"`, 0), name("a", 3), end(4))},
		program{"\"\u05d0", list(mark(`"`, 0), mark("\u05d0", 1))},
		program{"\"\xff", list(mark(`"`, 0), mark("\xff", 1))},
	)
}

// TestMarks has each, one behind the other too: the longest is taken.
func TestMarks(t *testing.T) {
	for _, s := range slices.Concat(pairs, singles, []string{":", "|", "@", "?"}) {
		var last []api.Token
		if s == ")" || s == "]" || s == "}" {
			last = list(end(len(s)))
		}
		hold(t, program{s, append(list(mark(s, 0)), last...)})
		n := len(s)
		hold(t, program{s + "\xd7\x90", append(list(mark(s, 0)), mark("\u05d0", n))})
	}
	for _, p := range pairs {
		a, b := p[:1], p[1:]
		hold(t,
			program{"a" + p + "b", list(name("a", 0), mark(p, 1), name("b", 3), end(4))},
			program{p + p, list(mark(p, 0), mark(p, 2))},
			program{p + "(", list(mark(p, 0), mark("(", 2))},
			program{"(" + p, list(mark("(", 0), mark(p, 1))},
			program{a + " " + b, list(mark(a, 0), mark(b, 2))},
			program{a + "\n" + b, list(mark(a, 0), mark(b, 2))},
			program{a + "// c\n" + b, list(mark(a, 0), mark(b, 6))},
			program{a, list(mark(a, 0))},
		)
	}
	hold(t,
		program{"===", list(mark("==", 0), mark("=", 2))},
		program{":==", list(mark(":=", 0), mark("=", 2))},
		program{"::=", list(mark(":", 0), mark(":=", 1))},
		program{"<<=", list(mark("<", 0), mark("<=", 1))},
		program{"=>", list(mark("=", 0), mark(">", 1))},
		program{"=!", list(mark("=", 0), mark("!", 1))},
		program{"!!=", list(mark("!", 0), mark("!=", 1))},
		program{"&&&", list(mark("&&", 0), mark("&", 2))},
		program{"|||", list(mark("||", 0), mark("|", 2))},
		program{"+=", list(mark("+", 0), mark("=", 1))},
		program{"++--<>", list(mark("+", 0), mark("+", 1), mark("-", 2), mark("-", 3), mark("<", 4), mark(">", 5))},
		program{"a:b", list(name("a", 0), mark(":", 1), name("b", 2), end(3))},
		program{"a|b", list(name("a", 0), mark("|", 1), name("b", 2), end(3))},
		program{"|=", list(mark("|", 0), mark("=", 1))},
		program{"=\u05d0", list(mark("=", 0), mark("\u05d0", 1))},
	)
}

// enders are words of each sort behind which a byte 10 is a Semi; others are such behind which it is none.
var (
	enders = []api.Token{
		name("a", 0), name("_9", 0), name("returns", 0), name("int", 0), figure("0", 0), figure("12", 0),
		quote(`""`, 0), quote(`"if"`, 0), quote("\"\u05d0\"", 0), key("return", 0), mark(")", 0), mark("]", 0), mark("}", 0),
	}
	others = func() []api.Token {
		l := []api.Token{semi(0), mark(`"`, 0), mark(":", 0), mark("|", 0), mark("@", 0), mark("\u05d0", 0), mark("\U0001f600", 0), mark("\x00", 0)}
		for _, k := range keys {
			if k != "return" {
				l = append(l, key(k, 0))
			}
		}
		for _, s := range slices.Concat(pairs, singles) {
			if s != ")" && s != "]" && s != "}" {
				l = append(l, mark(s, 0))
			}
		}
		return l
	}()
)

// gaps are what may stand between a word and the byte 10 behind it, or the end.
var gaps = []string{"", " ", "\t\r", "// c", " // c ;", "\r// \u05d0"}

func TestLineEnds(t *testing.T) {
	for _, gap := range gaps {
		for _, w := range enders {
			s := w.Text + " " + gap
			n := len(s)
			hold(t,
				program{s, list(w, end(n))},
				program{s + "\n", list(w, lineEnd(n))},
				program{s + "\n\n\n", list(w, lineEnd(n))},
				program{s + "\n // d\n\t\n ", list(w, lineEnd(n))},
				program{s + "\r\n\r\n", list(w, lineEnd(n+1))},
				program{s + "\n.", list(w, lineEnd(n), mark(".", n+1))},
				program{s + "\n\n;", list(w, lineEnd(n), semi(n+2))},
			)
		}
		for _, w := range others {
			s := w.Text + " " + gap
			n := len(s)
			hold(t,
				program{s, list(w)},
				program{s + "\n", list(w)},
				program{s + "\n\n // d\n", list(w)},
				program{s + "\n.", list(w, mark(".", n+1))},
				program{s + "\n}\n", list(w, mark("}", n+1), lineEnd(n+2))},
			)
		}
		n := len(gap)
		hold(t, program{gap + "\n;", list(semi(n + 1))}, program{gap + "\n)", list(mark(")", n+1), end(n+2))})
	}
}

func TestSemis(t *testing.T) {
	hold(t,
		program{";", list(semi(0))},
		program{";;", list(semi(0), semi(1))},
		program{"a;", list(name("a", 0), semi(1))},
		program{"a;\n", list(name("a", 0), semi(1))},
		program{"a\n;", list(name("a", 0), lineEnd(1), semi(2))},
		program{"a ; ; b", list(name("a", 0), semi(2), semi(4), name("b", 6), end(7))},
		program{"if;\n", list(key("if", 0), semi(2))},
		program{"a\n;\nb\n", list(name("a", 0), lineEnd(1), semi(2), name("b", 4), lineEnd(5))},
		program{"{\n}\n}", list(mark("{", 0), mark("}", 2), lineEnd(3), mark("}", 4), end(5))},
	)
}

// TestScalars has such as have two to four bytes: each is one mark.
func TestScalars(t *testing.T) {
	for _, s := range []string{
		"\u0080", "\u00b5", "\u05d0", "\u07ff", "\u0800", "\u2028", "\u6587", "\ufeff", "\ufffd", "\uffff", "\U00010000", "\U0001f600", "\U0010ffff",
	} {
		n := len(s)
		hold(t,
			program{s, list(mark(s, 0))},
			program{s + s, list(mark(s, 0), mark(s, n))},
			program{"a" + s + "1", list(name("a", 0), mark(s, 1), figure("1", n+1), end(n+2))},
			program{"=" + s + "=", list(mark("=", 0), mark(s, 1), mark("=", n+1))},
			program{s + "\n" + s + "//", list(mark(s, 0), mark(s, n+1))},
			program{s + `"` + s + `"`, list(mark(s, 0), quote(`"`+s+`"`, n), end(2*n+2))},
		)
	}
}

// bytesOf are marks of one byte each.
func bytesOf(s string, from int) []api.Token {
	var l []api.Token
	for i := range len(s) {
		l = append(l, mark(s[i:i+1], from+i))
	}
	return l
}

// TestWrongTexts: as soon as a text is not right, wherever that is, each byte is a mark by itself.
func TestWrongTexts(t *testing.T) {
	far := strings.Repeat("// \n", 5000)
	for _, wrong := range []string{
		"\x80", "\xbf", "\xc0\x80", "\xe0\x80\x8a", "\xed\xa0\x80", "\xed\xa0\xbd\xed\xb8\x80", "\xf0\x8f\xbf\xbf", "\xf4\x90\x80\x80", "\xff", "\xc2", "\xe6\x96", "\xf0\x9f\x98",
	} {
		n := len(wrong)
		hold(t, program{wrong, bytesOf(wrong, 0)})
		for _, s := range []string{"\u05d0", "\u6587", "\ufffd", "\U0001f600"} {
			m := len(s)
			hold(t,
				program{s + " " + wrong, append(bytesOf(s, 0), bytesOf(wrong, m+1)...)},
				program{wrong + " " + s, append(bytesOf(wrong, 0), bytesOf(s, n+1)...)},
				program{s + far + "//" + wrong, bytesOf(s, 0)},
				program{"\"" + wrong + "\"" + s, append(list(quote("\""+wrong+"\"", 0)), bytesOf(s, n+2)...)},
				program{"a:=b" + s + "//" + wrong, append(list(name("a", 0), mark(":=", 1), name("b", 3)), bytesOf(s, 4)...)},
				program{s + "\n1" + wrong, slices.Concat(bytesOf(s, 0), list(figure("1", m+1)), bytesOf(wrong, m+2))},
			)
		}
	}
	// The bytes of one scalar, with what is none of it between.
	hold(t, program{"\xd7 \x90", list(mark("\xd7", 0), mark("\x90", 2))}, program{"\xd7\n\x90", list(mark("\xd7", 0), mark("\x90", 2))})
	hold(t, program{"a\xd7b\n", list(name("a", 0), mark("\xd7", 1), name("b", 2), lineEnd(3))})
}

func TestKey(t *testing.T) {
	for _, k := range keys {
		if !scan.Key(k) {
			t.Errorf("Key(%q): false", k)
		}
		for _, s := range []string{k + "a", "a" + k, k + " ", " " + k, k + "\n", k + k, k[1:], k[:len(k)-1], strings.ToUpper(k), strings.ToUpper(k[:1]) + k[1:], k + "\x00"} {
			if scan.Key(s) {
				t.Errorf("Key(%q): true", s)
			}
		}
	}
	for _, s := range []string{"", " ", "a", "_", "0", "int", "new", "make", "package", "import", "while", "func var", ";", ")", "\"if\"", "\u05d0", "\xff", "\xffif", strings.Repeat("for", 1000)} {
		if scan.Key(s) {
			t.Errorf("Key(%q): true", s)
		}
	}
}

// TestEnds has words of all kinds, of texts that do not fit them too, wherever they stand.
func TestEnds(t *testing.T) {
	texts := slices.Concat([]string{"", "a", "_9", "12", `""`, `"a"`, `"`, ";", ":", "|", "@", "return ", " )", "))", "Return", "\u05d0", "\xff", "\n"}, keys, pairs, singles)
	for _, kind := range kinds {
		for _, s := range texts {
			want := kind == api.Name || kind == api.Figure || kind == api.Quote ||
				kind == api.Key && s == "return" || kind == api.Mark && (s == ")" || s == "]" || s == "}")
			for _, at := range []api.Token{{}, {From: 3, To: 3 + len(s)}, {From: 5, To: 1}, {From: math.MinInt, To: math.MaxInt}} {
				x := api.Token{Word: kind, Text: s, From: at.From, To: at.To}
				if got := scan.Ends(x); got != want {
					t.Errorf("Ends(%s): %v", told(x), got)
				}
			}
		}
	}
}

// TestEndsAsScanned holds Ends against what Scan makes of a byte 10, and of the end, behind each word.
func TestEndsAsScanned(t *testing.T) {
	for _, w := range slices.Concat(enders, others) {
		l, behind := scan.Scan(w.Text), scan.Scan(w.Text+"\n")
		if !slices.Equal(l[:1], list(w)) || !slices.Equal(behind[:1], list(w)) {
			t.Fatalf("%s: %s, %s", told(w), told(l...), told(behind...))
		}
		if ends := scan.Ends(w); ends != (len(l) == 2) || ends != (len(behind) == 2) {
			t.Errorf("Ends(%s): %v; %s, %s", told(w), ends, told(l...), told(behind...))
		}
	}
	if scan.Ends(end(1)) || scan.Ends(lineEnd(1)) || scan.Ends(semi(1)) {
		t.Error("Ends of a Semi")
	}
}

func TestBrief(t *testing.T) {
	for _, x := range []struct {
		l    []api.Token
		want string
	}{
		{nil, ""},
		{list(), ""},
		{list(name("a", 0)), "a"},
		{list(name("", 0)), ""},
		{list(semi(0)), ";"},
		{list(lineEnd(7)), ";"},
		{list(end(7)), ";"},
		{list(word(api.Semi, "a", 0)), ";"},
		{list(semi(0), lineEnd(1), end(2)), "; ; ;"},
		{list(name("a", 0), mark(":=", 9), figure("1", 4), lineEnd(0)), "a := 1 ;"},
		{list(key("if", 0), quote(`"a // b"`, 0), mark("\u05d0", 0), mark("\xff", 0)), "if \"a // b\" \u05d0 \xff"},
		{list(name("", 0), name("", 0), name(" ", 0)), "   "},
		{list(mark(";", 0), name(";", 0), mark("\n", 0), api.Token{Text: "x", From: 9, To: -9}), "; ; \n x"},
		{list(word(6, "a", 0), word(-1, "b", 0), word(math.MaxInt, "", 0), word(6, ";", 0)), "a b  ;"},
	} {
		if got := scan.Brief(x.l); got != x.want {
			t.Errorf("Brief(%s): %q, not %q", told(x.l...), got, x.want)
		}
	}
}

// TestBriefLeavesItsList looks at what is handed in, and at what lies behind it.
func TestBriefLeavesItsList(t *testing.T) {
	all := scan.Scan("a := b\n; c")
	was := slices.Clone(all)
	for n := range len(all) + 1 {
		want := strings.Join(strings.Fields("a := b ; ; c ;")[:n], " ")
		if got := scan.Brief(all[:n]); got != want {
			t.Errorf("Brief(%s): %q, not %q", told(all[:n]...), got, want)
		}
	}
	if !slices.Equal(all, was) {
		t.Errorf("Brief changed its words: %s", told(all...))
	}
}
