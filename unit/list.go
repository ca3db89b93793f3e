package unit

import (
	"slices"
	"strings"

	"bolthole/parse"
	"bolthole/split"
)

// list is a program's declarations, in order. What their parts have is never written into once it is read: units that were read again of one another share it.
type list []Decl

// declared is a program's, of each where it stands and its text alone.
func declared(s string) list {
	var l list
	for _, p := range split.Pieces(s) {
		if p.Decl {
			l = append(l, Decl{From: p.From, To: p.To, Text: s[p.From:p.To]})
		}
	}
	return l
}

// shared is how many of its texts are another list's at the beginning, and how many, of the others, at the end.
func (l list) shared(old list) (head, tail int) {
	// What was counted at the beginning is not there any more at the end, in neither list.
	left := min(len(l), len(old))
	count := func(at, was, step int) int {
		n := 0
		for left > 0 && l[at].Text == old[was].Text {
			at, was = at+step, was+step
			left--
			n++
		}
		return n
	}
	head = count(0, 0, 1)
	tail = count(len(l)-1, len(old)-1, -1)
	return head, tail
}

// keep takes over what was read of as many others, of the same texts.
func (l list) keep(old list) {
	for i := range l {
		d, was := &l[i], old[i]
		d.Part, d.At, d.E = was.Part, was.At, was.E
	}
}

// readAfresh reads each one's text.
func (l list) readAfresh() {
	for i := range l {
		d := &l[i]
		// Of a copy: else a part that is kept would keep all of the program that it was read in.
		d.Part, d.At, d.E = parse.Decl(strings.Clone(d.Text))
	}
}

// copied is the list, with parts that share nothing with its own.
func (l list) copied() []Decl {
	all := slices.Clone(l)
	for i := range all {
		all[i].Part = parse.Shift(all[i].Part, 0)
	}
	return all
}
