package check

import (
	"strings"

	"bolthole/api"
)

// value is what an expression that has a type is. Both are told at once: were each asked for by itself, every & and every field would ask twice for what it has.
type value struct {
	typ   string
	place bool
}

// valuesOfKinds are how an expression's value is told, by its kind, of its operands'.
func valuesOfKinds() map[string]func(*space, api.Part, []value) (value, bool) {
	return map[string]func(*space, api.Part, []value) (value, bool){
		"num":    (*space).num,
		"str":    (*space).str,
		"id":     (*space).id,
		"unary":  (*space).unary,
		"binary": (*space).binary,
		"call":   (*space).call,
		"field":  (*space).field,
		"index":  (*space).index,
		"new":    (*space).newCall,
		"make":   (*space).makeCall,
	}
}

// value is an expression's; false, if it has no type.
func (s *space) value(p api.Part) (value, bool) {
	of, ok := s.kinds[p.Kind]
	if !ok {
		return value{}, false
	}
	var l []value
	for _, k := range operands(p) {
		v, ok := s.value(k)
		if !ok {
			return value{}, false
		}
		l = append(l, v)
	}
	return of(s, p, l)
}

// operands are those of an expression's Kids that are expressions, not types.
func operands(p api.Part) []api.Part {
	switch p.Kind {
	case "new":
		return nil
	case "make":
		return p.Kids[min(1, len(p.Kids)):]
	}
	return p.Kids
}

func (s *space) num(api.Part, []value) (value, bool) { return value{typ: "int"}, true }

func (s *space) str(api.Part, []value) (value, bool) { return value{typ: "string"}, true }

func (s *space) id(p api.Part, _ []value) (value, bool) {
	if v, ok := s.find(p.Text); ok {
		return value{typ: v.Type, place: true}, true
	}
	if g := s.global(p.Text); g.kind == "var" {
		return value{typ: g.typ, place: true}, true
	}
	switch p.Text {
	case "true", "false":
		return value{typ: "bool"}, true
	case "nil":
		return value{typ: "nil"}, true
	}
	return value{}, false
}

func (s *space) unary(p api.Part, l []value) (value, bool) {
	if len(l) == 0 {
		return value{}, false
	}
	v := l[0]
	switch to, points := strings.CutPrefix(v.typ, "*"); {
	case p.Text == "-" && v.typ == "int", p.Text == "!" && v.typ == "bool":
		return value{typ: v.typ}, true
	case p.Text == "*" && points:
		return value{typ: to, place: true}, true
	case p.Text == "&" && v.place:
		return value{typ: "*" + v.typ}, true
	}
	return value{}, false
}

func (s *space) binary(p api.Part, l []value) (value, bool) {
	if len(l) < 2 {
		return value{}, false
	}
	a, b := l[0].typ, l[1].typ
	switch p.Text {
	case "==", "!=":
		return value{typ: "bool"}.only(compare(a, b))
	case "&&", "||":
		return value{typ: "bool"}.only(a == "bool" && b == "bool")
	case "<", "<=", ">", ">=":
		return value{typ: "bool"}.only(a == "int" && b == "int")
	case "+":
		return value{typ: a}.only(a == b && (a == "int" || a == "string"))
	case "-", "*", "/", "%":
		return value{typ: "int"}.only(a == "int" && b == "int")
	}
	return value{}, false
}

func (s *space) call(p api.Part, l []value) (value, bool) {
	g := s.global(p.Text)
	if g.kind != "func" || len(l) != len(g.params) {
		return value{}, false
	}
	for i, v := range l {
		if !Goes(v.typ, g.params[i]) {
			return value{}, false
		}
	}
	return value{typ: g.typ}, true
}

func (s *space) field(p api.Part, l []value) (value, bool) {
	if len(l) == 0 {
		return value{}, false
	}
	t, ok := s.Field(l[0].typ, p.Text)
	return value{typ: t, place: l[0].place || strings.HasPrefix(l[0].typ, "*")}.only(ok)
}

func (s *space) index(_ api.Part, l []value) (value, bool) {
	if len(l) < 2 || l[1].typ != "int" {
		return value{}, false
	}
	t, ok := strings.CutPrefix(l[0].typ, "[]")
	return value{typ: t, place: true}.only(ok)
}

func (s *space) newCall(p api.Part, _ []value) (value, bool) {
	t, ok := s.typed(p, 0)
	return value{typ: "*" + t}.only(ok)
}

func (s *space) makeCall(p api.Part, l []value) (value, bool) {
	t, ok := s.typed(p, 0)
	return value{typ: t}.only(ok && strings.HasPrefix(t, "[]") && len(l) > 0 && l[0].typ == "int")
}

// only is a value, if something holds.
func (v value) only(holds bool) (value, bool) {
	if !holds {
		return value{}, false
	}
	return v, true
}

// compare tells whether == may stand between two types.
func compare(a, b string) bool {
	return (Goes(a, b) || Goes(b, a)) && (a == "nil" || b == "nil" || plain(a) && plain(b))
}

// plain tells whether == may stand between two of a type that is not nil's.
func plain(t string) bool {
	switch t {
	case "int", "bool", "string":
		return true
	}
	return strings.HasPrefix(t, "*")
}
