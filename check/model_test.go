package check_test

import (
	"slices"
	"strconv"
	"strings"
	"testing"

	"bolthole/api"
	"bolthole/check"
	"bolthole/parse"
	"bolthole/scope"
	"bolthole/show"
	"bolthole/unit"
)

// none is what the model tells of an expression that has no type.
const none = "-"

// modelSpace is a space's variables, and the one about it; nil is what files declare.
type modelSpace struct {
	vars  []check.Var
	about *modelSpace
}

// own is a space's own variable of a name, the last one.
func (m *modelSpace) own(name string) (check.Var, bool) {
	for _, v := range slices.Backward(m.vars) {
		if v.Name == name {
			return v, true
		}
	}
	return check.Var{}, false
}

// find is the innermost variable of a name.
func (m *modelSpace) find(name string) (check.Var, bool) {
	if m == nil {
		return check.Var{}, false
	}
	if v, ok := m.own(name); ok {
		return v, true
	}
	return m.about.find(name)
}

// modelGoes tells whether a type goes to another one.
func modelGoes(from, to string) bool {
	switch {
	case from == "void" || to == "void":
		return false
	case from == "nil" && to != "" && (to[0] == '*' || to[0] == '['):
		return true
	}
	return from == to
}

// modelType is an expression's type.
func modelType(s *scope.Scope, in *modelSpace, e api.Part) string {
	var l []string
	for i, k := range e.Kids {
		if e.Kind == "new" || e.Kind == "make" && i == 0 {
			l = append(l, modelThere(s, k))
		} else {
			l = append(l, modelType(s, in, k))
		}
	}
	if slices.Contains(l, none) {
		return none
	}
	switch e.Kind {
	case "num":
		return "int"
	case "str":
		return "string"
	case "id":
		return modelId(s, in, e.Text)
	case "unary":
		return modelUnary(e.Text, l[0], modelPlace(s, in, e.Kids[0]))
	case "binary":
		return modelBinary(e.Text, l[0], l[1])
	case "call":
		return modelCall(s, e.Text, l)
	case "field":
		if t, ok := s.Field(l[0], e.Text); ok {
			return t
		}
	case "index":
		if strings.HasPrefix(l[0], "[]") && l[1] == "int" {
			return l[0][2:]
		}
	case "new":
		return "*" + l[0]
	case "make":
		if strings.HasPrefix(l[0], "[]") && l[1] == "int" {
			return l[0]
		}
	}
	return none
}

// modelThere is a type's text, if it is there.
func modelThere(s *scope.Scope, p api.Part) string {
	if t := show.Show(p); s.Type(t) {
		return t
	}
	return none
}

func modelId(s *scope.Scope, in *modelSpace, name string) string {
	if v, ok := in.find(name); ok {
		return v.Type
	}
	if e, _ := s.Find(name); e.Kind == "var" {
		return show.Show(e.Part.Kids[0])
	}
	switch name {
	case "true", "false":
		return "bool"
	case "nil":
		return "nil"
	}
	return none
}

func modelUnary(mark, t string, place bool) string {
	switch {
	case mark+t == "-int", mark+t == "!bool":
		return t
	case mark == "*" && t != "" && t[0] == '*':
		return t[1:]
	case mark == "&" && place:
		return "*" + t
	}
	return none
}

func modelBinary(mark, a, b string) string {
	for _, row := range []struct{ marks, of, to string }{{"+ - * / %", "int", "int"}, {"+", "string", "string"}, {"< <= > >=", "int", "bool"}, {"&& ||", "bool", "bool"}} {
		if slices.Contains(strings.Fields(row.marks), mark) && a == row.of && b == row.of {
			return row.to
		}
	}
	plain := func(t string) bool {
		return slices.Contains([]string{"int", "bool", "string", "nil"}, t) || strings.HasPrefix(t, "*")
	}
	both, one := plain(a) && plain(b), a == "nil" || b == "nil"
	if (mark == "==" || mark == "!=") && (modelGoes(a, b) || modelGoes(b, a)) && (both || one) {
		return "bool"
	}
	return none
}

// modelResult is the type of a function's result; void, if it has none.
func modelResult(f api.Part) string {
	if l := f.Kids[1].Kids; len(l) > 0 {
		return show.Show(l[0])
	}
	return "void"
}

func modelCall(s *scope.Scope, name string, l []string) string {
	e, _ := s.Find(name)
	if e.Kind != "func" {
		return none
	}
	var params []string
	for _, p := range e.Part.Kids[0].Kids {
		params = append(params, show.Show(p.Kids[0]))
	}
	if !slices.EqualFunc(l, params, modelGoes) {
		return none
	}
	return modelResult(e.Part)
}

// modelPlace tells whether an expression is a place.
func modelPlace(s *scope.Scope, in *modelSpace, e api.Part) bool {
	switch e.Kind {
	case "id":
		_, variable := in.find(e.Text)
		d, _ := s.Find(e.Text)
		return variable || d.Kind == "var"
	case "field":
		return modelPlace(s, in, e.Kids[0]) || strings.HasPrefix(modelType(s, in, e.Kids[0]), "*")
	case "index":
		return true
	case "unary":
		return e.Text == "*"
	}
	return false
}

// model goes through a function by the chapter's words.
type model struct {
	s      *scope.Scope
	result string
	vars   []check.Var
	faults []check.Fault
}

// modelFunc is a function's variables, and faults.
func modelFunc(s *scope.Scope, f api.Part) ([]check.Var, []check.Fault) {
	if f.Kind != "func" {
		return nil, nil
	}
	m := &model{s: s, result: modelResult(f)}
	params := &modelSpace{}
	for _, p := range f.Kids[0].Kids {
		_, twice := params.own(p.Text)
		if !twice {
			m.declare(params, check.Var{Name: p.Text, Type: show.Show(p.Kids[0]), From: p.From})
		}
		m.need(p, !twice && modelThere(s, p.Kids[0]) != none)
	}
	m.need(f.Kids[1], m.result == "void" || s.Type(m.result))
	m.block(&modelSpace{about: params}, f.Kids[2], 0)
	return m.vars, m.faults
}

func (m *model) declare(in *modelSpace, v check.Var) {
	in.vars = append(in.vars, v)
	m.vars = append(m.vars, v)
}

// need is a part's fault, if something doesn't hold.
func (m *model) need(p api.Part, holds bool) {
	if !holds {
		m.faults = append(m.faults, check.Fault{From: p.From, To: p.To, Kind: p.Kind})
	}
}

// block goes through one, that has this space.
func (m *model) block(in *modelSpace, p api.Part, loop int) {
	for _, k := range p.Kids {
		m.statement(in, k, loop)
	}
}

func (m *model) statement(in *modelSpace, p api.Part, loop int) {
	var types []string
	for _, k := range p.Kids {
		types = append(types, modelType(m.s, in, k))
	}
	switch p.Kind {
	case "block":
		m.block(&modelSpace{about: in}, p, loop)
	case "var", "define":
		m.declaration(in, p, loop, types)
	case "assign":
		m.need(p, modelPlace(m.s, in, p.Kids[0]) && !slices.Contains(types, none) && modelGoes(types[1], types[0]))
	case "expr":
		m.need(p, p.Kids[0].Kind == "call" && types[0] != none)
	case "return":
		m.need(p, len(types) == 0 && m.result == "void" || len(types) == 1 && types[0] != none && modelGoes(types[0], m.result))
	case "if":
		m.need(p, types[0] == "bool")
		for _, k := range p.Kids[1:] {
			m.statement(in, k, loop)
		}
	case "for":
		m.need(p, types[0] == "bool")
		m.statement(in, p.Kids[1], loop+1)
	}
}

func (m *model) declaration(in *modelSpace, p api.Part, loop int, types []string) {
	v := check.Var{Name: p.Text, Type: show.Show(p.Kids[0]), From: p.From, Loop: loop}
	right := m.s.Type(v.Type)
	if p.Kind == "define" {
		v.Name, v.Type = p.Kids[0].Text, types[1]
		right = p.Kids[0].Kind == "id" && !slices.Contains([]string{none, "nil", "void"}, v.Type)
	}
	_, twice := in.own(v.Name)
	m.need(p, right && !twice)
	if right && !twice {
		m.declare(in, v)
	}
}

// scopeOf is that of one file.
func scopeOf(s string) *scope.Scope {
	return scope.New(scope.File{Name: "a", Decls: unit.New(s).Decls()})
}

// decl is a declaration's part.
func decl(t *testing.T, s string) api.Part {
	t.Helper()
	p, at, e := parse.Decl(s)
	if e != api.OK {
		t.Fatalf("%s: %v at %d", s, e, at)
	}
	return p
}

// expr is an expression's part.
func expr(t *testing.T, s string) api.Part {
	t.Helper()
	return decl(t, "func f() { _ = "+s+"\n}").Kids[2].Kids[0].Kids[1]
}

// tellVars writes variables.
func tellVars(l []check.Var) string {
	var b strings.Builder
	for _, v := range l {
		b.WriteString(v.Name + " " + v.Type + " from " + strconv.Itoa(v.From) + ", " + strconv.Itoa(v.Loop) + "\n")
	}
	return b.String()
}

// tellFaults writes faults.
func tellFaults(l []check.Fault) string {
	var b strings.Builder
	for _, f := range l {
		b.WriteString(f.Kind + " from " + strconv.Itoa(f.From) + " to " + strconv.Itoa(f.To) + "\n")
	}
	return b.String()
}

// hold holds what is told of a function against the model: P14.1, H1, and P14.2.
func hold(t *testing.T, s *scope.Scope, text string) ([]check.Var, []check.Fault) {
	t.Helper()
	f := decl(t, text)
	vars, faults := check.Func(s, f)
	wantVars, wantFaults := modelFunc(s, f)
	if tellVars(vars) != tellVars(wantVars) {
		t.Errorf("%s:\n%snot\n%s", text, tellVars(vars), tellVars(wantVars))
	}
	if tellFaults(faults) != tellFaults(wantFaults) {
		t.Errorf("%s:\n%snot\n%s", text, tellFaults(faults), tellFaults(wantFaults))
	}
	holdOrder(t, f, vars, faults)
	return vars, faults
}

// holdOrder holds P14.2, and that each fault, and each variable, has the place and the kind of a part.
func holdOrder(t *testing.T, f api.Part, vars []check.Var, faults []check.Fault) {
	t.Helper()
	parts := parse.All(f)
	at := f.From
	for _, v := range vars {
		is := func(p api.Part) bool {
			return p.From == v.From && (p.Text == v.Name && (p.Kind == "param" || p.Kind == "var") || p.Kind == "define")
		}
		if v.From <= at || v.From >= f.To || !slices.ContainsFunc(parts, is) {
			t.Errorf("%v comes behind %d, in a function up to %d", v, at, f.To)
		}
		at = v.From
	}
	at = f.From
	for _, x := range faults {
		is := func(p api.Part) bool { return p.From == x.From && p.To == x.To && p.Kind == x.Kind }
		if x.From <= at || x.To > f.To || x.To <= x.From || !slices.ContainsFunc(parts, is) {
			t.Errorf("%v comes behind %d, in a function up to %d", x, at, f.To)
		}
		at = x.From
	}
}
