package check

import (
	"bolthole/api"
	"bolthole/scope"
	"bolthole/show"
)

// void is the type of a call of what has no result.
const void = "void"

// space is variables that are declared in it, and what stands about it.
type space struct {
	*outside
	here  map[string]Var // by names
	about *space         // nil: what is outside alone
}

// outside is what stands about all spaces of a function.
type outside struct {
	*scope.Scope
	kinds map[string]func(*space, api.Part, []value) (value, bool)
	known map[string]global // by names: a scope copies a whole function each time that it is asked for one
}

// global is what files declare: a `var` and its type, or a `func`, its result's type and its params'.
type global struct {
	kind, typ string
	params    []string
}

// newSpace is one with nothing but files' scope about it.
func newSpace(s *scope.Scope) *space {
	out := &outside{Scope: s, kinds: valuesOfKinds(), known: map[string]global{}}
	return &space{outside: out, here: map[string]Var{}}
}

// within is a space in another one.
func (s *space) within() *space {
	about := s
	if len(s.here) == 0 && s.about != nil {
		about = s.about // s gets no variables while another one stands in it: it needn't be looked through each time
	}
	return &space{outside: s.outside, here: map[string]Var{}, about: about}
}

// declare puts a variable to the others, if none of them has its name.
func (s *space) declare(v Var) bool {
	if _, there := s.here[v.Name]; there {
		return false
	}
	s.here[v.Name] = v
	return true
}

// find is the variable of the innermost space that has a name.
func (s *space) find(name string) (Var, bool) {
	for ; s != nil; s = s.about {
		if v, ok := s.here[name]; ok {
			return v, true
		}
	}
	return Var{}, false
}

// typed is the type that a part has as a Kid, and whether it is there.
func (s *space) typed(p api.Part, i int) (string, bool) {
	t := typeText(p, i)
	return t, i < len(p.Kids) && s.Type(t)
}

// global is what files declare by a name; of no kind, if nothing.
func (o *outside) global(name string) global {
	if g, ok := o.known[name]; ok {
		return g
	}
	e, _ := o.Find(name)
	g := global{kind: e.Kind}
	switch e.Kind {
	case "var":
		g.typ = typeText(e.Part, 0)
	case "func":
		g.typ = resultType(kidOf(e.Part, 1))
		for _, k := range kidOf(e.Part, 0).Kids {
			g.params = append(g.params, typeText(k, 0))
		}
	}
	o.known[name] = g
	return g
}

// resultType is a `result`'s.
func resultType(p api.Part) string {
	if len(p.Kids) == 0 {
		return void
	}
	return typeText(p, 0)
}

// typeText is the text of a type that a part has as a Kid.
func typeText(p api.Part, i int) string { return show.Show(kidOf(p, i)) }
