package split_test

import (
	"math"
	"slices"
	"strings"
	"sync"
	"testing"

	"bolthole/api"
	"bolthole/split"
)

// parts are what long programs are made of.
var parts = []string{
	"func", "var", "type", "func ", "var x int\n", "type T struct {\n}\n", "func f() {\n\treturn\n}\n", "\nvar", "\ntype", "\nfunc",
	"a", "_", "0", " ", "\t", "\r", "\n", "\n", "\n\n", "\r\n", "//", "// c\n", "//func\n", " var\n", "variant\n", "func1\n", "return\n",
	";", "{", "}", "\"", "\"a\"", "/", "(", ")", "\u05d0", "\u05d0\n", "\U0001f600",
}

// wrong are parts, and some bytes that are no right text.
var wrong = append([]string{"\xff", "\xd7", "\x90\n", "\nvar\x90"}, parts...)

// numbers come in an order without a rule that a reader could see, but each time the same one.
type numbers uint32

// below is the next one, below a limit.
func (n *numbers) below(limit int) int {
	*n = *n*1664525 + 1013904223
	return int(*n>>8) % limit
}

// program is as many parts.
func (n *numbers) program(l []string, many int) string {
	var b strings.Builder
	for range many {
		b.WriteString(l[n.below(len(l))])
	}
	return b.String()
}

// whole holds P9.2: a program's pieces follow one another from its beginning to its end, and only an empty one's has no byte.
func whole(t *testing.T, s string, l []split.Piece) {
	t.Helper()
	end := 0
	for i, p := range l {
		if p.From != end || p.To < p.From || p.To == p.From && s != "" {
			t.Fatalf("%q: piece %d of %v doesn't follow", s, i, l)
		}
		if p.Decl && p.Junk || i > 0 && !p.Decl {
			t.Fatalf("%q: piece %d of %v isn't a declaration, or also junk", s, i, l)
		}
		end = p.To
	}
	if len(l) == 0 || end != len(s) {
		t.Fatalf("%q: %v don't end with it", s, l)
	}
}

// holdAll holds a program's pieces against the model, and all that is told of them.
func holdAll(t *testing.T, s string) {
	t.Helper()
	l, want := split.Pieces(s), piecesOf(s)
	if !slices.Equal(l, want) {
		t.Fatalf("Pieces(%q): %v, not %v", s, l, want)
	}
	whole(t, s, l)
	for at := -2; at < len(s)+3; at++ {
		if got, want := split.Of(l, at), modelOf(l, at); got != want {
			t.Fatalf("%q: Of(%v, %d): %d, not %d", s, l, at, got, want)
		}
	}
	for at := -2; at < len(s)+3; at++ {
		for _, to := range []int{-1, 0, at - 1, at, at + 1, at + 4, len(s) - 1, len(s), len(s) + 1} {
			a, b := split.Touched(l, at, to)
			if x, y := modelTouched(l, at, to); a != x || b != y {
				t.Fatalf("%q: Touched(%v, %d, %d): %d, %d, not %d, %d", s, l, at, to, a, b, x, y)
			}
		}
	}
}

// textsOf are all texts of up to so many parts.
func textsOf(most int, l ...string) []string {
	all := []string{""}
	last := all
	for range most {
		var longer []string
		for _, s := range last {
			for _, part := range l {
				longer = append(longer, s+part)
			}
		}
		all = append(all, longer...)
		last = longer
	}
	return all
}

func TestAllShortPrograms(t *testing.T) {
	for _, s := range textsOf(5, "var", "\n", " ", "a", "//", "\r") {
		holdAll(t, s)
	}
	for _, s := range textsOf(4, "func", "type", "\n", "0", "_", "\"", "/", "\t", "\xff", "\u05d0", ";") {
		holdAll(t, s)
	}
	for _, s := range textsOf(6, "v", "a", "r", "\n") {
		holdAll(t, s)
	}
}

func TestLongPrograms(t *testing.T) {
	n := numbers(9)
	for many := range 300 {
		holdAll(t, n.program(parts, many%80))
		holdAll(t, n.program(wrong, many%80))
	}
}

// untouched holds P9.3: what stands ahead of the pieces that an edit touches, and behind them, moved as far as the text, stands there behind it, too. It tells whether there is anything.
func untouched(t *testing.T, s string, from, to int, text string) bool {
	t.Helper()
	l := split.Pieces(s)
	a, b := split.Touched(l, from, to)
	if a < 0 || b < a || b > len(l) || b == 0 {
		t.Fatalf("%q: Touched(%v, %d, %d): %d, %d", s, l, from, to, a, b)
	}
	made := s[:from] + text + s[to:]
	behind := split.Pieces(made)
	if !slices.Equal(behind, piecesOf(made)) {
		t.Fatalf("Pieces(%q): %v", made, behind)
	}
	rest := slices.Clone(l[b:])
	for i := range rest {
		rest[i].From += len(made) - len(s)
		rest[i].To += len(made) - len(s)
	}
	ahead := l[:a]
	if len(behind) < len(ahead)+len(rest) || !slices.Equal(behind[:len(ahead)], ahead) || !slices.Equal(behind[len(behind)-len(rest):], rest) {
		t.Fatalf("%q, %v, from %d to %d replaced by %q: %v; %d, %d were told", s, l, from, to, text, behind, a, b)
	}
	if a > 0 && l[a-1].To > from || b < len(l) && l[b].From <= to {
		t.Fatalf("%q: Touched(%v, %d, %d): %d, %d", s, l, from, to, a, b)
	}
	return len(ahead)+len(rest) > 0
}

// manyPieces have junk at their beginning, blanks, a declaration, or but one piece.
var manyPieces = []string{
	"x\nvar a\nvar b\nfunc c() {\n}\ntype d\n",
	"// h\n\nvar\nvar\nvar\nvar",
	"func a() {\n\tvar x int\n}\n\n// of b\nfunc b()\nvar\n",
	"\nvar a\r\nvar b\r\n vars\nfunc\n",
	"var a", "a", "", "\n", "a\nvar\n", "var\nvariant\nvar\xd7\n\x90var\n",
}

// TestEditsOfManyPieces has insertions, removals and both, at all places: such as join pieces, part them, and make junk a declaration, and the other way round.
func TestEditsOfManyPieces(t *testing.T) {
	texts := []string{"", "a", "0", "_", " ", "\n", "//", "\nvar", "\nvar ", "var", "var ", "var\n", "\nvar x int\n", "func", "func f()\n\nx\n", "type\ntype\n", "\n\n", "\r", "\xff", "\u05d0\n", "v", "r\n"}
	some := 0
	for _, s := range manyPieces {
		for from := range len(s) + 1 {
			for to := from; to <= len(s); to++ {
				for _, text := range texts {
					if untouched(t, s, from, to, text) {
						some++
					}
				}
			}
		}
	}
	if some < 10000 {
		t.Errorf("%d edits left something untouched", some)
	}
}

func TestEditsOfLongPrograms(t *testing.T) {
	n := numbers(3)
	some := 0
	for range 20000 {
		s := n.program(wrong, 1+n.below(60))
		from := n.below(len(s) + 1)
		to := from + n.below(min(20, len(s)-from)+1)
		if untouched(t, s, from, to, n.program(wrong, n.below(4))) {
			some++
		}
	}
	if some < 10000 {
		t.Errorf("%d edits left something untouched", some)
	}
}

// TestEditsByName has an edit of each sort that the pieces behind it show.
func TestEditsByName(t *testing.T) {
	for _, x := range []struct {
		sort     string
		s        string
		from, to int
		text     string
		a, b     int
		want     []split.Piece
	}{
		{"junk becomes a declaration", "xvar\nvar a\nvar b\n", 0, 1, "", 0, 1, list(decl(0, 4), decl(4, 10), decl(10, 16))},
		{"a declaration becomes junk", "var\nvar a\nvar b\n", 0, 0, "x", 0, 1, list(junk(0, 5), decl(5, 11), decl(11, 17))},
		{"nothing becomes junk", "\nvar a\nvar b\n", 0, 0, "x", 0, 1, list(junk(0, 2), decl(2, 8), decl(8, 14))},
		{"junk becomes nothing", "x\nvar a\nvar b\n", 0, 0, "//", 0, 1, list(plain(0, 4), decl(4, 10), decl(10, 16))},
		{"junk goes", "x\nvar a\nvar b\n", 0, 2, "", 0, 2, list(decl(0, 6), decl(6, 12))},
		{"a key becomes longer", "var a\nvar b\nvar c\nvar d\n", 15, 15, "s", 1, 3, list(decl(0, 6), decl(6, 19), decl(19, 25))},
		{"a key is moved from its line's beginning", "var a\nvar b\nvar c\nvar d\n", 12, 12, " ", 1, 3, list(decl(0, 6), decl(6, 19), decl(19, 25))},
		{"a line's end goes", "var a\nvar b\nvar c\nvar d\n", 11, 12, "", 0, 3, list(decl(0, 6), decl(6, 17), decl(17, 23))},
		{"one is parted", "var a\nvar b x\nvar c\nvar d\n", 12, 12, "\nvar ", 0, 2, list(decl(0, 6), decl(6, 13), decl(13, 19), decl(19, 25), decl(25, 31))},
		{"one is put in at a border", "var a\nvar b\nvar c\n", 6, 6, "type x\n", 0, 2, list(decl(0, 6), decl(6, 13), decl(13, 19), decl(19, 25))},
		{"one is put in at the end", "var a\nvar b\nvar c\n", 18, 18, "type x\n", 1, 3, list(decl(0, 6), decl(6, 12), decl(12, 18), decl(18, 25))},
		{"one's text is changed", "var a\nvar b\nvar c\nvar d\n", 16, 17, "xy", 1, 3, list(decl(0, 6), decl(6, 12), decl(12, 19), decl(19, 25))},
		{"all goes", "x\nvar a\nvar b\n", 0, 14, "", 0, 3, list(plain(0, 0))},
		{"all comes", "", 0, 0, "x\nvar a\nvar b\n", 0, 1, list(junk(0, 2), decl(2, 8), decl(8, 14))},
	} {
		if a, b := split.Touched(split.Pieces(x.s), x.from, x.to); a != x.a || b != x.b {
			t.Errorf("%s: Touched: %d, %d", x.sort, a, b)
		}
		hold(t, x.s[:x.from]+x.text+x.s[x.to:], x.want...)
		untouched(t, x.s, x.from, x.to, x.text)
	}
}

// TestGreatPrograms: no limit is asked for here; many pieces, and great ones.
func TestGreatPrograms(t *testing.T) {
	const many = 4 * api.MaxText
	for _, x := range []struct {
		s      string
		pieces int
	}{
		{strings.Repeat("var\n", many), many},
		{strings.Repeat("a", many), 1},
		{strings.Repeat("\n", many), 1},
		{strings.Repeat("var\n var\n", many), many},
		{"var " + strings.Repeat("\"", many), 1},
		{strings.Repeat("//", many) + "\nvar", 2},
		{strings.Repeat("var", many), 1},
		{strings.Repeat("\xffvar\n", many) + "type", 2},
	} {
		l := split.Pieces(x.s)
		if len(l) != x.pieces {
			t.Errorf("%.20q, %d bytes: %d pieces, not %d", x.s, len(x.s), len(l), x.pieces)
		}
		if l[0].From != 0 || l[len(l)-1].To != len(x.s) || split.Of(l, len(x.s)) != len(l)-1 {
			t.Errorf("%.20q: from %d to %d", x.s, l[0].From, l[len(l)-1].To)
		}
		if a, b := split.Touched(l, 0, len(x.s)); a != 0 || b != len(l) {
			t.Errorf("%.20q: Touched: %d, %d", x.s, a, b)
		}
	}
}

// TestAnyLists asks of lists that are no program's: there are answers, within the list.
func TestAnyLists(t *testing.T) {
	ends := []int{math.MinInt, -1, 0, 1, 3, math.MaxInt}
	var all []split.Piece
	for _, from := range ends {
		for _, to := range ends {
			all = append(all, split.Piece{From: from, To: to, Decl: from < to, Junk: to < 0})
		}
	}
	var lists [][]split.Piece
	for _, p := range all {
		lists = append(lists, list(p))
		for _, q := range all {
			lists = append(lists, list(p, q))
		}
	}
	lists = append(lists, all)
	for _, l := range lists {
		was := slices.Clone(l)
		for _, from := range ends {
			if at := split.Of(l, from); at < -1 || at >= len(l) {
				t.Fatalf("Of(%v, %d): %d", l, from, at)
			}
			for _, to := range ends {
				a, b := split.Touched(l, from, to)
				if a < 0 || a > len(l) || b < 0 || b > len(l) || (from < 0 || to < from) && (a != 0 || b != 0) {
					t.Fatalf("Touched(%v, %d, %d): %d, %d", l, from, to, a, b)
				}
			}
		}
		if !slices.Equal(l, was) {
			t.Fatalf("%v became %v", was, l)
		}
	}
}

// TestSomePieces asks of some of a program's pieces: bytes ahead of them, and between, are none's.
func TestSomePieces(t *testing.T) {
	l := split.Pieces("x\nvar a\nvar b\nvar c\nvar d\n") // from 0, 2, 8, 14 and 20 on, up to 26
	for _, x := range []struct {
		l        []split.Piece
		from, to int
		of, a, b int
	}{
		{l[2:], 9, 15, 0, 0, 2},
		{l[2:], 7, 15, -1, 0, 0},
		{l[2:], 0, 0, -1, 0, 0},
		{l[2:4], 16, 20, 1, 0, 2},
		{l[2:4], 16, 21, 1, 0, 0},
		{list(l[1], l[4]), 5, 10, 0, 0, 0},
		{list(l[1], l[4]), 10, 21, -1, 0, 0},
		{list(l[1], l[4]), 21, 26, 1, 0, 2},
	} {
		if of := split.Of(x.l, x.from); of != x.of {
			t.Errorf("Of(%v, %d): %d, not %d", x.l, x.from, of, x.of)
		}
		if a, b := split.Touched(x.l, x.from, x.to); a != x.a || b != x.b {
			t.Errorf("Touched(%v, %d, %d): %d, %d, not %d, %d", x.l, x.from, x.to, a, b, x.a, x.b)
		}
	}
}

// TestListsApart writes into lists that were answered, over their whole room: another call's are as they were.
func TestListsApart(t *testing.T) {
	for _, s := range manyPieces {
		want := piecesOf(s)
		a, b := split.Pieces(s), split.Pieces(s)
		a = a[:cap(a)]
		for i := range a {
			a[i] = split.Piece{From: -1, To: -2, Decl: true, Junk: true}
		}
		if !slices.Equal(b, want) {
			t.Fatalf("%q: %v, not %v", s, b, want)
		}
		b = append(b, junk(7, 9))
		if c := split.Pieces(s); !slices.Equal(c, want) || !slices.Equal(b[:len(want)], want) {
			t.Fatalf("%q: %v, not %v", s, c, want)
		}
	}
}

// TestListsStay looks at what is handed in, and at what lies behind its length, which no answer hangs on.
func TestListsStay(t *testing.T) {
	s := manyPieces[0]
	all := split.Pieces(s)
	was := slices.Clone(all)
	for n := range len(all) + 1 {
		l := all[:n]
		for at := -1; at < len(s)+2; at++ {
			if got, want := split.Of(l, at), modelOf(slices.Clone(l), at); got != want {
				t.Fatalf("Of(%v, %d): %d, not %d", l, at, got, want)
			}
			for to := at; to < len(s)+2; to++ {
				a, b := split.Touched(l, at, to)
				if x, y := modelTouched(slices.Clone(l), at, to); a != x || b != y {
					t.Fatalf("Touched(%v, %d, %d): %d, %d, not %d, %d", l, at, to, a, b, x, y)
				}
			}
		}
		if !slices.Equal(all, was) {
			t.Fatalf("%v became %v", was, all)
		}
	}
}

// TestAnswersHangOnArguments asks for programs in turn, in both orders, and side by side: P1 and P2.
func TestAnswersHangOnArguments(t *testing.T) {
	var pieces [][]split.Piece
	for _, s := range manyPieces {
		pieces = append(pieces, split.Pieces(s))
	}
	var group sync.WaitGroup
	for range 4 {
		group.Go(func() {
			for i, s := range slices.Backward(manyPieces) {
				if l := split.Pieces(s); !slices.Equal(l, pieces[i]) || !slices.Equal(l, piecesOf(s)) {
					t.Errorf("%q: %v, then %v", s, pieces[i], l)
				}
				for at := range len(s) + 1 {
					a, b := split.Touched(pieces[i], at, len(s))
					if x, y := modelTouched(pieces[i], at, len(s)); a != x || b != y || split.Of(pieces[i], at) != modelOf(pieces[i], at) {
						t.Errorf("%q: Touched(%v, %d): %d, %d", s, pieces[i], at, a, b)
					}
				}
			}
		})
	}
	group.Wait()
}
