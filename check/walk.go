package check

import "bolthole/api"

// walk goes through a function.
type walk struct {
	*space          // the one that it is in
	result   string // the function's type of it, or void
	loop     int    // how many `for`s stand about
	declared []Var
	faults   []Fault
}

// params declares them, in the space that they have.
func (w *walk) params(l []api.Part) {
	for _, p := range l {
		t, there := w.typed(p, 0)
		if first := w.variable(p, p.Text, t); !first || !there {
			w.fault(p)
		}
	}
}

// resultOf takes the function's.
func (w *walk) resultOf(p api.Part) {
	w.result = resultType(p)
	if w.result != void && !w.Type(w.result) {
		w.fault(p)
	}
}

// statement looks at one, and at what stands within.
func (w *walk) statement(p api.Part) {
	if !w.right(p) {
		w.fault(p)
	}
	switch p.Kind {
	case "block":
		about := w.space
		w.space = about.within()
		w.statements(p.Kids)
		w.space = about
	case "if":
		w.statements(p.Kids)
	case "for":
		first := min(1, len(p.Kids)) // a `for` does not stand about its first Kid
		w.statements(p.Kids[:first])
		w.loop++
		w.statements(p.Kids[first:])
		w.loop--
	}
}

// statements looks at some, in order; at those parts that are none there is nothing to look at.
func (w *walk) statements(l []api.Part) {
	for _, p := range l {
		w.statement(p)
	}
}

// right tells whether a statement is, and declares what one that is does.
func (w *walk) right(p api.Part) bool {
	switch p.Kind {
	case "var":
		t, there := w.typed(p, 0)
		return there && w.variable(p, p.Text, t)
	case "define":
		return w.define(p)
	case "assign":
		return w.assign(p)
	case "expr":
		_, typed := w.value(kidOf(p, 0))
		return typed && kidOf(p, 0).Kind == "call"
	case "return":
		return w.returns(p)
	case "if", "for":
		v, typed := w.value(kidOf(p, 0))
		return typed && v.typ == "bool"
	}
	return true
}

func (w *walk) define(p api.Part) bool {
	name := kidOf(p, 0)
	v, typed := w.value(kidOf(p, 1))
	if name.Kind != "id" || !typed || v.typ == "nil" || v.typ == void {
		return false
	}
	return w.variable(p, name.Text, v.typ)
}

func (w *walk) assign(p api.Part) bool {
	to, typed := w.value(kidOf(p, 0))
	from, goes := w.value(kidOf(p, 1))
	return typed && to.place && goes && Goes(from.typ, to.typ)
}

func (w *walk) returns(p api.Part) bool {
	if len(p.Kids) == 0 {
		return w.result == void
	}
	v, typed := w.value(p.Kids[0])
	return typed && Goes(v.typ, w.result)
}

// variable declares one where a part stands, if its space has no such name yet.
func (w *walk) variable(p api.Part, name, typ string) bool {
	v := Var{Name: name, Type: typ, From: p.From, Loop: w.loop}
	if !w.declare(v) {
		return false
	}
	w.declared = append(w.declared, v)
	return true
}

// fault tells that a part is not right.
func (w *walk) fault(p api.Part) {
	w.faults = append(w.faults, Fault{From: p.From, To: p.To, Kind: p.Kind})
}
