package parse

import (
	"slices"

	"bolthole/api"
	"bolthole/scan"
)

// none is the kind of what stands behind the last word.
const none api.Word = -1

// wrong is the byte at which a word stands that no declaration could have there.
type wrong int

// begun is a part whose end is not yet read.
type begun struct {
	api.Part
	kidFrom int // where its last Kid begins, with the brackets about it
}

// reader goes through a declaration's words. What is still to be read, and the parts about it, stand in lists, not in calls within calls: a text may have as many brackets, one within the other, as it is long.
type reader struct {
	words []api.Token
	at    int      // the next word
	todo  []func() // what is to be read, the next one last
	open  []begun  // the innermost one last; the first one is about the declaration
}

// newReader is one at a text's first word.
func newReader(s string) *reader {
	end := api.Token{Word: none, From: len(s), To: len(s)}
	return &reader{words: append(scan.Scan(s), end), open: make([]begun, 1)}
}

// read is the part that all words are, or the byte at which a wrong one stands.
func (r *reader) read() (p api.Part, at int, e api.Errno) {
	defer func() {
		if w, ok := recover().(wrong); ok {
			at, e = int(w), api.ErrSyntax
		}
	}()
	r.then(r.decl, r.semis, r.noMore)
	for len(r.todo) > 0 {
		last := len(r.todo) - 1
		step := r.todo[last]
		r.todo = r.todo[:last]
		step()
	}
	return r.top().Kids[0], 0, api.OK
}

// then has steps done next, in order, ahead of all that is still to be done.
func (r *reader) then(steps ...func()) {
	for _, step := range slices.Backward(steps) {
		r.todo = append(r.todo, step)
	}
}

// fail tells that the next word is wrong.
func (r *reader) fail() { panic(wrong(r.next().From)) }

// next is the next word.
func (r *reader) next() api.Token { return r.words[r.at] }

// is tells whether the next word is a mark, or a key.
func (r *reader) is(text string) bool { return r.next().Text == text }

// need fails if something doesn't hold, and passes over the next word if it does.
func (r *reader) need(holds bool) {
	if !holds {
		r.fail()
	}
	r.at++
}

// word is the step that reads a mark, or a key.
func (r *reader) word(text string) func() {
	return func() { r.need(r.is(text)) }
}

// name reads a name, that becomes the innermost part's Text.
func (r *reader) name() {
	text := r.next().Text
	r.need(r.next().Word == api.Name)
	r.top().Text = text
}

// text reads a word, whatever it is, that becomes the innermost part's Text.
func (r *reader) text() {
	r.top().Text = r.next().Text
	r.at++
}

// semis passes over Semis, if some come next.
func (r *reader) semis() {
	for r.next().Word == api.Semi {
		r.at++
	}
}

// noMore fails if any word comes next.
func (r *reader) noMore() {
	if r.next().Word != none {
		r.fail()
	}
}

// top is the innermost part.
func (r *reader) top() *begun { return &r.open[len(r.open)-1] }

// begin begins a part at the next word.
func (r *reader) begin(kind string) {
	r.open = append(r.open, begun{Part: api.Part{Kind: kind, From: r.next().From}})
}

// wrap begins a part ahead of the last Kid of the innermost one, whose first Kid it becomes.
func (r *reader) wrap(kind string) {
	about := r.top()
	last := len(about.Kids) - 1
	kid := about.Kids[last]
	about.Kids = about.Kids[:last]
	r.open = append(r.open, begun{Part: api.Part{Kind: kind, From: about.kidFrom, Kids: []api.Part{kid}}})
}

// end ends the innermost part behind the last word that was read: it becomes a Kid of the one about it.
func (r *reader) end() {
	p := r.top().Part
	r.open = r.open[:len(r.open)-1]
	from := p.From
	p.To = r.words[r.at-1].To
	switch p.Kind {
	case brackets: // no part, but words of the one about them
		p = p.Kids[0]
	case "params", "result":
		p.From, p.To = span(p.Kids)
	}
	about := r.top()
	about.Kids = append(about.Kids, p)
	about.kidFrom = from
}

// span is where the first one of parts begins, and the last one ends.
func span(l []api.Part) (int, int) {
	if len(l) == 0 {
		return 0, 0
	}
	return l[0].From, l[len(l)-1].To
}
