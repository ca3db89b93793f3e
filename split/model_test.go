package split_test

import (
	"regexp"
	"strings"

	"bolthole/split"
)

// comments are all of a program's, and maybe the end of a quote with `//` in it, whose beginning stays.
var comments = regexp.MustCompile(`//[^\n]*`)

// hasWords tells whether a program has some: anything but blanks, bytes 10 and comments.
func hasWords(s string) bool {
	return strings.Trim(comments.ReplaceAllString(s, ""), " \t\r\n") != ""
}

// declares tells whether a declaration begins with a line that begins at a byte.
func declares(s string, at int) bool {
	if at > 0 && s[at-1] != '\n' {
		return false
	}
	for _, word := range []string{"func", "var", "type"} {
		if !strings.HasPrefix(s[at:], word) {
			continue
		}
		rest := s[at+len(word):]
		return rest == "" || !strings.Contains("abcdefghijklmnopqrstuvwxyzABCDEFGHIJKLMNOPQRSTUVWXYZ_0123456789", rest[:1])
	}
	return false
}

// piecesOf are a program's pieces, by the chapter's words.
func piecesOf(s string) []split.Piece {
	begins := []int{0}
	for at := 1; at < len(s); at++ {
		if declares(s, at) {
			begins = append(begins, at)
		}
	}
	var l []split.Piece
	for i, from := range begins {
		to := len(s)
		if i+1 < len(begins) {
			to = begins[i+1]
		}
		decl := declares(s, from)
		l = append(l, split.Piece{From: from, To: to, Decl: decl, Junk: !decl && hasWords(s[from:to])})
	}
	return l
}

// modelOf is which of a program's pieces has a byte; of a list without any, none has.
func modelOf(l []split.Piece, at int) int {
	which := -1
	for i, p := range l {
		for x := p.From; x < p.To; x++ {
			if x == at {
				which = i
			}
		}
	}
	if len(l) > 0 && at == l[len(l)-1].To {
		which = len(l) - 1
	}
	return which
}

// modelTouched is which of a program's pieces an edit may change.
func modelTouched(l []split.Piece, from, to int) (int, int) {
	if len(l) == 0 || from < 0 || to < from || l[len(l)-1].To < to {
		return 0, 0
	}
	a := modelOf(l, from)
	if a > 0 {
		a--
	}
	return a, modelOf(l, to) + 1
}
