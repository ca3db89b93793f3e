package scan_test

import (
	"slices"
	"strings"
	"sync"
	"testing"

	"bolthole/api"
	"bolthole/scan"
)

// inOrder holds P8.2: words rise, and have their text in the program.
func inOrder(t *testing.T, s string, l []api.Token) {
	t.Helper()
	last := 0
	for i, x := range l {
		if x.From < last || x.To < x.From || x.To > len(s) {
			t.Fatalf("%q: word %d of %s stands behind %d", s, i, told(l...), last)
		}
		last = x.To
		has := s[x.From:x.To]
		switch {
		case has == x.Text && has != "":
		case x.Word == api.Semi && x.Text == "" && has == "\n":
		case x.Word == api.Semi && x.Text == "" && has == "" && x.From == len(s) && i == len(l)-1:
		default:
			t.Fatalf("%q: word %d of %s has %q", s, i, told(l...), has)
		}
	}
}

// plain tells whether P8.3 asks for something of a program of such words.
func plain(l []api.Token) bool {
	return !slices.ContainsFunc(l, func(x api.Token) bool {
		return x.Word == api.Mark && (x.Text == `"` || x.Text == "/" || x.Text[0] >= 128)
	})
}

// again holds P8.3: what Brief tells has the same words, but that each Semi is `;`, and one may come behind.
func again(t *testing.T, s string, l []api.Token) {
	t.Helper()
	if !plain(l) {
		return
	}
	brief := scan.Brief(l)
	back := scan.Scan(brief)
	if len(back) == len(l)+1 && back[len(l)] == end(len(brief)) {
		back = back[:len(l)]
	}
	same := slices.EqualFunc(l, back, func(a, b api.Token) bool {
		if a.Word == api.Semi {
			return b.Word == api.Semi && b.Text == ";"
		}
		return a.Word == b.Word && a.Text == b.Text
	})
	if !same {
		t.Fatalf("%q: %s, told as %q, then %s", s, told(l...), brief, told(back...))
	}
}

// holdAll holds a program's words against the model, and all promises.
func holdAll(t *testing.T, s string) {
	t.Helper()
	l := scan.Scan(s)
	if want := wordsOf(s); !slices.Equal(l, want) {
		t.Fatalf("Scan(%q): %s, not %s", s, told(l...), told(want...))
	}
	inOrder(t, s, l)
	again(t, s, l)
}

// TestAllShortTexts goes through all texts of up to three bytes of which each may make a word another one, and of up to four of the busiest.
func TestAllShortTexts(t *testing.T) {
	for _, x := range []struct {
		bytes string
		most  int
	}{
		{"\x00\t\n\v\r !\"%&'()*+,-./019:;<=>?@AZ[\\]^_`az{|}~\x7f\x80\x90\xbf\xc2\xd7\xe6\xf0\xff", 3},
		{"\n \"/a0;:=)\xd7\x90", 4},
	} {
		l := []string{""}
		for range x.most {
			var longer []string
			for _, s := range l {
				for i := range len(x.bytes) {
					longer = append(longer, s+x.bytes[i:i+1])
				}
			}
			for _, s := range longer {
				holdAll(t, s)
			}
			l = longer
		}
	}
}

// pieces are what long programs are made of.
var pieces = slices.Concat(keys, pairs, singles, []string{
	" ", "  ", "\t", "\r", "\n", "\n\n", "\r\n", ";", "// c", "//\n", "// \"c\n", "a", "x1", "_", "f00", "0", "42", `""`, `"s"`, `"a // b"`, `"`, ":", "|", "@", "\u05d0", "\u6587", "\U0001f600", "\"\u05d0\"",
})

// longProgram is as many pieces, in an order without a rule that a reader could see, but each time the same one.
func longProgram(l []string, many int, seed uint32) string {
	var b strings.Builder
	for range many {
		seed = seed*1664525 + 1013904223
		b.WriteString(l[int(seed>>8)%len(l)])
	}
	return b.String()
}

func TestLongPrograms(t *testing.T) {
	wrong := append([]string{"\xff", "\xd7", "\x90", "\xf0\x9f"}, pieces...)
	calm := slices.DeleteFunc(slices.Clone(pieces), func(s string) bool {
		return s == `"` || s == "/" || s[0] >= 128
	})
	for seed := range uint32(1500) {
		many := int(seed % 60)
		holdAll(t, longProgram(pieces, many, seed))
		holdAll(t, longProgram(wrong, many, seed))
		holdAll(t, longProgram(calm, many, seed))
		holdAll(t, longProgram(calm, many, seed)+"\u05d0//\xff")
	}
}

// TestAgain asks Brief's text of programs to be scanned to the same words: P8.3.
func TestAgain(t *testing.T) {
	for s, want := range map[string]string{
		"":                              "",
		"func f() {\n}\n":               "func f ( ) { } ;",
		"a:=b\n":                        "a := b ;",
		"x=\"a // b\"":                  `x = "a // b" ;`,
		"a:\n=b":                        "a : = b ;",
		"return//x":                     "return ;",
		"if x {\n\ty = *z\n} else {\n}": "if x { y = * z ; } else { } ;",
		"9a":                            "9 a ;",
		"\"\u05d0\"+\"\xff\"":           "\"\u05d0\" + \"\xff\" ;",
		"\x00|\v":                       "\x00 | \v",
	} {
		l := scan.Scan(s)
		if got := scan.Brief(l); got != want {
			t.Errorf("Brief of %q: %q, not %q", s, got, want)
		}
		if !plain(l) {
			t.Errorf("%q isn't plain", s)
		}
		again(t, s, l)
	}
}

// TestGreatPrograms: no limit is asked for here; many words, great ones, and many that nothing ends.
func TestGreatPrograms(t *testing.T) {
	const many = 16 * api.MaxText
	for _, x := range []struct {
		s     string
		words int
	}{
		{strings.Repeat("a", many), 2},
		{strings.Repeat("1", many), 2},
		{"\"" + strings.Repeat("a", many) + "\"", 2},
		{strings.Repeat("/", many), 0},
		{strings.Repeat(" ", many), 0},
		{strings.Repeat("\n", many), 0},
		{strings.Repeat("\"", many), many/2 + 1},
		{strings.Repeat("\"\n", many), many},
		{strings.Repeat("\"a\n", many), 3 * many},
		{strings.Repeat(";", many), many},
		{strings.Repeat("a\n", many), 2 * many},
		{strings.Repeat("=", many), many / 2},
		{strings.Repeat("\U0001f600", many), many},
		{strings.Repeat("\U0001f600", many) + "\xff", 4*many + 1},
	} {
		l := scan.Scan(x.s)
		if len(l) != x.words {
			t.Errorf("%.20q, %d bytes: %d words, not %d", x.s, len(x.s), len(l), x.words)
		}
		last := 0
		for _, w := range l {
			if w.From < last {
				t.Fatalf("%.20q: %s stands behind %d", x.s, told(w), last)
			}
			last = w.To
		}
		if got := len(scan.Brief(l)); got < len(l) && len(l) > 1 {
			t.Errorf("%.20q: Brief of %d words has %d bytes", x.s, len(l), got)
		}
	}
}

// samples are programs of all sorts.
func samples() []string {
	l := []string{"", "\n", "func f(p *int) *int {\n\treturn p // p\n}\n", "\xff\u05d0", "x := &y\n", "\"a\" \"", "type T struct { a []T; b *T }"}
	for seed := range uint32(20) {
		l = append(l, longProgram(pieces, 40, seed))
	}
	return l
}

// TestListsApart writes into lists that were answered, over their whole room: another call's are as they were.
func TestListsApart(t *testing.T) {
	for _, s := range samples() {
		want := wordsOf(s)
		a, b := scan.Scan(s), scan.Scan(s)
		a = a[:cap(a)]
		for i := range a {
			a[i] = api.Token{Word: 9, Text: "?", From: -1, To: -1}
		}
		if !slices.Equal(b, want) {
			t.Fatalf("%q: %s, not %s", s, told(b...), told(want...))
		}
		b = append(b, name("?", 0))
		if c := scan.Scan(s); !slices.Equal(c, want) || !slices.Equal(b[:len(want)], want) {
			t.Fatalf("%q: %s, not %s", s, told(c...), told(want...))
		}
	}
}

// TestTextStays makes programs of bytes that are written into afterwards.
func TestTextStays(t *testing.T) {
	for _, s := range samples() {
		b := []byte(s)
		l := scan.Scan(string(b))
		for i := range b {
			b[i] = '?'
		}
		for _, x := range l {
			text := []byte(x.Text)
			for i := range text {
				text[i] = '?'
			}
		}
		if !slices.Equal(l, wordsOf(s)) {
			t.Fatalf("%q: %s", s, told(l...))
		}
	}
}

// TestAnswersHangOnArguments asks for programs in turn, in both orders, and side by side: P1 and P2.
func TestAnswersHangOnArguments(t *testing.T) {
	all := samples()
	var words [][]api.Token
	var briefs []string
	for _, s := range all {
		words = append(words, scan.Scan(s))
		briefs = append(briefs, scan.Brief(words[len(words)-1]))
	}
	var group sync.WaitGroup
	for range 4 {
		group.Go(func() {
			for i, s := range slices.Backward(all) {
				l := scan.Scan(s)
				if !slices.Equal(l, words[i]) || scan.Brief(words[i]) != briefs[i] {
					t.Errorf("%q: %s, then %s", s, told(words[i]...), told(l...))
				}
				for j, x := range words[i] {
					if j+1 < len(l) && x.Word != api.Semi && scan.Ends(x) != scan.Ends(l[j]) {
						t.Errorf("Ends(%s)", told(x))
					}
					if scan.Key(x.Text) != (x.Word == api.Key) {
						t.Errorf("Key(%q): of kind %d", x.Text, x.Word)
					}
				}
			}
		})
	}
	group.Wait()
}
