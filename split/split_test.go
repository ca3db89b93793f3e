package split_test

import (
	"math"
	"slices"
	"strings"
	"testing"

	"bolthole/split"
)

// keys are those that a declaration may begin with, others those that none may.
var (
	keys   = []string{"func", "var", "type"}
	others = []string{"struct", "return", "if", "else", "for"}
)

// The makers of pieces: with a declaration, with words and none, and with neither.

func decl(from, to int) split.Piece  { return split.Piece{From: from, To: to, Decl: true} }
func junk(from, to int) split.Piece  { return split.Piece{From: from, To: to, Junk: true} }
func plain(from, to int) split.Piece { return split.Piece{From: from, To: to} }

// list is pieces as a list.
func list(l ...split.Piece) []split.Piece { return l }

// hold holds a program's pieces against those that it should have.
func hold(t *testing.T, s string, want ...split.Piece) {
	t.Helper()
	if got := split.Pieces(s); !slices.Equal(got, want) {
		t.Errorf("Pieces(%q): %v, not %v", s, got, want)
	}
}

func TestNothing(t *testing.T) {
	hold(t, "", plain(0, 0))
	for _, s := range []string{
		" ", "\t", "\r", "\n", "\n\n\n", "\r\n", " \t\r\n\t\n ", "//", "// a", "// a\n", "//\n//\n", "\n\n// func\n  // var x\n\n",
		"//func\n//var x int\n", "// \"a\"", "//\xff\u05d0", "//func", "//\r\n\r\n",
	} {
		hold(t, s, plain(0, len(s)))
		hold(t, s+"\nvar", plain(0, len(s)+1), decl(len(s)+1, len(s)+4))
	}
}

func TestJunk(t *testing.T) {
	for _, s := range []string{
		"a", "0", "\"a\"", "\"// a\"", "\"", "/", "+", ";", "}", "\v", "\f", "\x00", "a\n", "\n\na", " // b\na", "a // b\n// c\n", "// b\n\n;\n", "a\nb\nc\n\n",
		"\u05d0", "\u00a0", "\u2028", "\U0001f600", "\xff", "\x80", "//\n\xff", "package main\n\nimport \"fmt\"\n", "x := 1\n", "\"//", "\"\n//", "/ /",
	} {
		hold(t, s, junk(0, len(s)))
		n := len(s) + 1
		hold(t, s+"\nvar", junk(0, n), decl(n, n+3))
		hold(t, s+"\nfunc f()\ntype", junk(0, n), decl(n, n+9), decl(n+9, n+13))
		// Behind a declaration it is that one's.
		hold(t, "var\n"+s, decl(0, 4+len(s)))
		hold(t, "var\n"+s+"\nvar", decl(0, 4+n), decl(4+n, 7+n))
	}
}

// TestWhereOneBegins has a declaration's beginning behind all that it may stand behind.
func TestWhereOneBegins(t *testing.T) {
	for _, key := range keys {
		for _, tail := range []string{"", "\n", " x", " f() {\n\treturn\n}\n"} {
			s := key + tail
			hold(t, s, decl(0, len(s)))
			for _, ahead := range []string{"\n", "\n\n", "\n\n\n\n", "\r\n", "\r\n\r\n", " \n", "// a\n", "//\n", "//" + key + "\n"} {
				n := len(ahead)
				hold(t, ahead+s, plain(0, n), decl(n, n+len(s)))
				hold(t, ahead+s+ahead, plain(0, n), decl(n, 2*n+len(s)))
			}
			for _, ahead := range []string{"a\n", "a\n\n", "a\r\n", "{\n", "\"\n", "\"a\"\n", "/\n", "a //\n", "\xff\n", "\u05d0\n", key + "0\n", " " + key + "\n"} {
				n := len(ahead)
				hold(t, ahead+s, junk(0, n), decl(n, n+len(s)))
			}
		}
	}
}

// TestWhereNoneBegins has a declaration's keys where they begin no line, and other words where they do.
func TestWhereNoneBegins(t *testing.T) {
	for _, key := range keys {
		for _, ahead := range []string{" ", "\t", "\r", "  \t", "\v", "\f", "\x00", "a", "_", "0", "a ", ";", "}", ") ", "\"", "\"\"", "/", "\xff", "\x80", "\u05d0", "\ufeff", "\u2028", "\u0085", "\u00a0"} {
			for _, s := range []string{ahead + key, ahead + key + " x int\n", "\n" + ahead + key + "\n"} {
				hold(t, s, junk(0, len(s)))
				hold(t, "var x\n"+s, decl(0, 6+len(s)))
			}
		}
		for _, ahead := range []string{"//", "// ", " //", "/// ", "// a // "} {
			s := ahead + key + " x int\n"
			hold(t, s, plain(0, len(s)))
			hold(t, "\n"+s, plain(0, len(s)+1))
			hold(t, "var x\n"+s, decl(0, 6+len(s)))
		}
		for n := 1; n < len(key); n++ {
			for _, tail := range []string{"", "\n", " x"} {
				s := key[:n] + tail
				hold(t, s, junk(0, len(s)))
				hold(t, "var x\n"+s, decl(0, 6+len(s)))
			}
		}
		s := "\"" + key + "\" x\n"
		hold(t, s, junk(0, len(s)))
		hold(t, strings.ToUpper(key), junk(0, len(key)))
		hold(t, strings.ToUpper(key[:1])+key[1:], junk(0, len(key)))
		hold(t, key[:2]+"\n"+key[2:], junk(0, len(key)+1))
	}
	for _, key := range slices.Concat(others, []string{"package", "import", "const", "go", "defer", "x", "map"}) {
		for _, tail := range []string{"", "\n", " x\n"} {
			s := key + tail
			hold(t, s, junk(0, len(s)))
			hold(t, "\n"+s, junk(0, len(s)+1))
			hold(t, "var x\n"+s, decl(0, 6+len(s)))
			hold(t, "var x\n"+s+"\ntype", decl(0, 7+len(s)), decl(7+len(s), 11+len(s)))
		}
	}
}

// TestRightBehind has each byte right behind a declaration's key.
func TestRightBehind(t *testing.T) {
	const inNames = "0123456789ABCDEFGHIJKLMNOPQRSTUVWXYZ_abcdefghijklmnopqrstuvwxyz"
	for _, key := range keys {
		hold(t, key, decl(0, len(key)))
		hold(t, "\n"+key, plain(0, 1), decl(1, 1+len(key)))
		for b := range 256 {
			next := string([]byte{byte(b)})
			for _, tail := range []string{"", "x", " x", "\n"} {
				s := key + next + tail
				n := 6 + len(s)
				if strings.Contains(inNames, next) {
					hold(t, s, junk(0, len(s)))
					hold(t, "var x\n"+s, decl(0, n))
					continue
				}
				hold(t, s, decl(0, len(s)))
				hold(t, "var x\n"+s, decl(0, 6), decl(6, n))
			}
		}
		for _, next := range []string{"\u05d0", "\u0430", "\u0660", "\uff10", "\u200d", "\U0001d7d8", "\"a\"", "()", "//a", "{}"} {
			s := key + next + "a"
			hold(t, s, decl(0, len(s)))
		}
	}
}

func TestOneBehindTheOther(t *testing.T) {
	hold(t, "var\nvar", decl(0, 4), decl(4, 7))
	hold(t, "var\nfunc\ntype\n", decl(0, 4), decl(4, 9), decl(9, 14))
	hold(t, "var var\nvar", decl(0, 8), decl(8, 11))
	hold(t, "var x int\nvar y int\n", decl(0, 10), decl(10, 20))
	hold(t, "func f() {\nvar x int\ntype\n}\n", decl(0, 11), decl(11, 21), decl(21, 28))
	hold(t, "var func type\n", decl(0, 14))
	hold(t, "var x;var y\n", decl(0, 12))
	hold(t, "var\n\n\nvar\n\n", decl(0, 6), decl(6, 11))
	hold(t, "var\r\nvar\r\n", decl(0, 5), decl(5, 10))
	hold(t, "var \"\nvar\"\n", decl(0, 6), decl(6, 11))
	hold(t, "var //\nvar\n//\n", decl(0, 7), decl(7, 14))
	hold(t, "a\nvar\n// of y\nvar\nb", junk(0, 2), decl(2, 14), decl(14, 19))
	hold(t, "// a\nvar\nvars\n\tvar\n var\nvar", plain(0, 5), decl(5, 24), decl(24, 27))
}

func TestWrongTexts(t *testing.T) {
	hold(t, "\xff", junk(0, 1))
	hold(t, "\xff\nvar", junk(0, 2), decl(2, 5))
	hold(t, "//\xff\nvar", plain(0, 4), decl(4, 7))
	hold(t, "var\xff", decl(0, 4))
	hold(t, "var\xd7\nfunc\x90 \xf0\x9f\n\x98\x80\ntype", decl(0, 5), decl(5, 17), decl(17, 21))
	hold(t, "\xf0\x9f\nvar\n\x98\x80", junk(0, 3), decl(3, 9))
	hold(t, "\xffvar", junk(0, 4))
	hold(t, "var\n\x80type", decl(0, 9))
	hold(t, "\xed\xa0\x80\n\xc0\x8afunc\nfunc", junk(0, 11), decl(11, 15))
}

func TestOf(t *testing.T) {
	for _, x := range []struct {
		l    []split.Piece
		at   int
		want int
	}{
		{nil, 0, -1}, {nil, -1, -1}, {nil, 1, -1}, {list(), 0, -1}, {list(), math.MaxInt, -1}, {list(), math.MinInt, -1},
		{split.Pieces(""), 0, 0}, {split.Pieces(""), 1, -1}, {split.Pieces(""), -1, -1},
		{split.Pieces("a"), 0, 0}, {split.Pieces("a"), 1, 0}, {split.Pieces("a"), 2, -1}, {split.Pieces("a"), -1, -1},
	} {
		if got := split.Of(x.l, x.at); got != x.want {
			t.Errorf("Of(%v, %d): %d, not %d", x.l, x.at, got, x.want)
		}
	}
	l := split.Pieces("// a\nvar x\nvar\nfunc f() {\n}\n")
	for i, p := range list(plain(0, 5), decl(5, 11), decl(11, 15), decl(15, 28)) {
		if l[i] != p {
			t.Fatalf("%v", l)
		}
		for at := p.From; at < p.To; at++ {
			if got := split.Of(l, at); got != i {
				t.Errorf("Of(%v, %d): %d, not %d", l, at, got, i)
			}
		}
	}
	if got := split.Of(l, 28); got != 3 {
		t.Errorf("Of(%v, 28): %d", l, got)
	}
	for _, at := range []int{-1, -2, -28, 29, 30, 56, math.MinInt, math.MaxInt} {
		if got := split.Of(l, at); got != -1 {
			t.Errorf("Of(%v, %d): %d", l, at, got)
		}
	}
}

func TestTouched(t *testing.T) {
	l := split.Pieces("// a\nvar x\nvar\nfunc f() {\n}\n") // from 0, 5, 11 and 15 on, up to 28
	for _, x := range []struct {
		l              []split.Piece
		from, to, a, b int
	}{
		{l, 0, 0, 0, 1}, {l, 0, 4, 0, 1}, {l, 4, 4, 0, 1}, {l, 0, 5, 0, 2}, {l, 4, 5, 0, 2},
		{l, 5, 5, 0, 2}, {l, 5, 10, 0, 2}, {l, 10, 10, 0, 2}, {l, 5, 11, 0, 3}, {l, 10, 11, 0, 3},
		{l, 11, 11, 1, 3}, {l, 12, 14, 1, 3}, {l, 14, 14, 1, 3}, {l, 14, 15, 1, 4}, {l, 11, 15, 1, 4},
		{l, 15, 15, 2, 4}, {l, 16, 20, 2, 4}, {l, 27, 27, 2, 4}, {l, 27, 28, 2, 4}, {l, 28, 28, 2, 4},
		{l, 0, 28, 0, 4}, {l, 0, 27, 0, 4}, {l, 5, 28, 0, 4}, {l, 11, 28, 1, 4}, {l, 15, 28, 2, 4},
		{l, 1, 0, 0, 0}, {l, 20, 5, 0, 0}, {l, 28, 27, 0, 0}, {l, 28, 0, 0, 0},
		{l, -1, 0, 0, 0}, {l, -1, -1, 0, 0}, {l, -1, 28, 0, 0}, {l, 5, -1, 0, 0},
		{l, 0, 29, 0, 0}, {l, 28, 29, 0, 0}, {l, 29, 29, 0, 0}, {l, 30, 29, 0, 0}, {l, 29, 28, 0, 0},
		{l, math.MinInt, 5, 0, 0}, {l, 5, math.MaxInt, 0, 0}, {l, math.MinInt, math.MaxInt, 0, 0}, {l, math.MaxInt, math.MinInt, 0, 0},
		{l, math.MaxInt, math.MaxInt, 0, 0}, {l, math.MinInt, math.MinInt, 0, 0},
		{nil, 0, 0, 0, 0}, {nil, -1, 1, 0, 0}, {list(), 0, 0, 0, 0}, {list(), 0, 1, 0, 0},
		{split.Pieces(""), 0, 0, 0, 1}, {split.Pieces(""), 0, 1, 0, 0}, {split.Pieces(""), 1, 1, 0, 0}, {split.Pieces(""), -1, 0, 0, 0},
		{split.Pieces("var"), 0, 0, 0, 1}, {split.Pieces("var"), 1, 3, 0, 1}, {split.Pieces("var"), 3, 3, 0, 1}, {split.Pieces("var"), 3, 4, 0, 0},
	} {
		if a, b := split.Touched(x.l, x.from, x.to); a != x.a || b != x.b {
			t.Errorf("Touched(%v, %d, %d): %d, %d, not %d, %d", x.l, x.from, x.to, a, b, x.a, x.b)
		}
	}
}
