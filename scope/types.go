package scope

import (
	"strings"

	"bolthole/api"
	"bolthole/show"
)

// mostSteps is how far types are gone through at once: calls within calls have an end, but fields of fields may be as many as there are types.
const mostSteps = 1000

// field is a type's field, and its type's text.
type field struct{ name, typ string }

// Type tells whether a type is there.
func (s *Scope) Type(t string) bool {
	// No name begins with a mark: all that stand ahead are passed over before one is looked for.
	for begins(t) {
		t = behind(t)
	}
	switch t {
	case "int", "bool", "string":
		return true
	}
	d, _ := s.find(t)
	return d.Kind == "type"
}

// Field is a field's type.
func (s *Scope) Field(t, name string) (string, bool) {
	d, _ := s.find(strings.TrimPrefix(t, "*"))
	for _, f := range d.fields {
		if f.name == name {
			return f.typ, true
		}
	}
	return "", false
}

// Points tells whether a type does.
func (s *Scope) Points(t string) bool {
	if !s.Type(t) {
		return false
	}
	asked := map[string]struct{}{}
	waiting := []string{t}
	var points func(t string, steps int) bool
	points = func(t string, steps int) bool {
		if begins(t) {
			return true
		}
		if steps == mostSteps {
			waiting = append(waiting, t)
			return false
		}
		if _, again := asked[t]; again {
			return false
		}
		asked[t] = struct{}{}
		d, _ := s.find(t)
		for _, f := range d.fields {
			if points(f.typ, steps+1) {
				return true
			}
		}
		return false
	}
	for len(waiting) > 0 {
		last := len(waiting) - 1
		next := waiting[last]
		waiting = waiting[:last]
		if points(next, 0) {
			return true
		}
	}
	return false
}

// fieldsOf are the fields that a part has, if it is a `type`.
func fieldsOf(p api.Part) []field {
	if p.Kind != "type" {
		return nil
	}
	var l []field
	for _, k := range p.Kids {
		if k.Kind == "field" {
			l = append(l, field{k.Text, typeOf(k)})
		}
	}
	return l
}

// typeOf is the text of a field's type; an empty one, if it has none.
func typeOf(p api.Part) string {
	if len(p.Kids) == 0 {
		return ""
	}
	return show.Show(p.Kids[0])
}

// begins tells whether a type's text begins with a mark, `*` or `[]`.
func begins(t string) bool { return strings.HasPrefix(t, "*") || strings.HasPrefix(t, "[]") }

// behind is what stands behind the mark that a type's text begins with.
func behind(t string) string {
	if rest, star := strings.CutPrefix(t, "*"); star {
		return rest
	}
	return strings.TrimPrefix(t, "[]")
}
