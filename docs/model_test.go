package docs_test

import (
	"slices"
	"strings"
	"unicode/utf8"

	"bolthole/api"
	"bolthole/edits"
)

// model is a store by the chapter's words: documents in the order in which they were opened.
type model struct {
	l []api.Doc
}

// find is where the document of a name stands, -1 if there is none.
func (m *model) find(name string) int {
	return slices.IndexFunc(m.l, func(d api.Doc) bool { return d.Name == name })
}

func (m *model) open(d api.Doc) api.Errno {
	nameMayBe := utf8.ValidString(d.Name) && len(d.Name) >= 1 && len(d.Name) <= 40
	switch {
	case !nameMayBe:
		return api.ErrArg
	case !utf8.ValidString(d.Text):
		return api.ErrUtf
	case len(d.Text) > 16384 || len(m.l) == 8:
		return api.ErrFull
	case m.find(d.Name) >= 0:
		return api.ErrTwice
	}
	m.l = append(m.l, d)
	return api.OK
}

func (m *model) change(name string, version int, l ...api.Edit) api.Errno {
	at := m.find(name)
	switch {
	case at < 0:
		return api.ErrNone
	case m.l[at].Version >= version:
		return api.ErrVersion
	}
	text, err := edits.Apply(m.l[at].Text, l...)
	if err == api.OK {
		m.l[at] = api.Doc{Name: name, Version: version, Text: text}
	}
	return err
}

func (m *model) whole(name string, version int, text string) api.Errno {
	at := m.find(name)
	switch {
	case at < 0:
		return api.ErrNone
	case m.l[at].Version >= version:
		return api.ErrVersion
	case !utf8.ValidString(text):
		return api.ErrUtf
	case len(text) > 16384:
		return api.ErrFull
	}
	m.l[at] = api.Doc{Name: name, Version: version, Text: text}
	return api.OK
}

func (m *model) close(name string) api.Errno {
	at := m.find(name)
	if at < 0 {
		return api.ErrNone
	}
	m.l = slices.Delete(m.l, at, at+1)
	return api.OK
}

// all goes through the documents, each time for the one whose name is next.
func (m *model) all() []api.Doc {
	var all []api.Doc
	for range m.l {
		var next *api.Doc
		for i := range m.l {
			d := &m.l[i]
			behind := len(all) == 0 || ahead(all[len(all)-1].Name, d.Name)
			if behind && (next == nil || ahead(d.Name, next.Name)) {
				next = d
			}
		}
		all = append(all, *next)
	}
	return all
}

// ahead tells whether a text stands ahead of another one, byte by byte; a shorter one does so of one that begins with it.
func ahead(a, b string) bool {
	for i := range min(len(a), len(b)) {
		if a[i] != b[i] {
			return a[i] < b[i]
		}
	}
	return len(a) < len(b)
}

func (m *model) size() int {
	var texts []string
	for _, d := range m.l {
		texts = append(texts, d.Text)
	}
	return len(strings.Join(texts, ""))
}
