package rpc

import (
	"slices"

	"bolthole/api"
	"bolthole/value"
)

// Read is a message's call.
func Read(v value.Value) (Call, api.Errno) {
	m, ok := messageOf(v)
	if !ok {
		return Call{}, api.ErrRequest
	}
	of := methodNamed(m.method)
	if of.kind == None || of.asks != m.asks {
		return Call{ID: m.id}, api.ErrMethod
	}
	c, ok := callOf(of, m.params)
	if !ok {
		return Call{Kind: of.kind, ID: m.id}, api.ErrParams
	}
	c.ID = m.id
	return c, api.OK
}

// message is what one has, whatever its method: Null stands for an id, and for params, that it doesn't have.
type message struct {
	method     string
	id, params value.Value
	asks       bool // it is a request
}

// messageOf is the message that a value is; false, if it is none.
func messageOf(v value.Value) (message, bool) {
	// A value that is not right has no text that could come as a message.
	if !value.Right(v) {
		return message{}, false
	}
	var t taker
	var m message
	told := t.text(v, versionKey)
	m.method = t.text(v, "method")
	m.id, m.asks = t.perhaps(v, "id", api.Number, api.Text)
	m.params, _ = t.perhaps(v, "params", api.Record, api.List)
	return m, !t.wrong && told == version
}

// callOf is what params tell of a method's call; false, if they don't have what they should.
func callOf(m method, params value.Value) (Call, bool) {
	c := Call{Kind: m.kind}
	if !m.told {
		return c, true
	}
	var t taker
	if m.kind == Cancel {
		c.Other = t.part(params, "id", api.Number, api.Text)
		return c, !t.wrong
	}
	document := t.part(params, "textDocument", api.Record)
	c.Name = t.text(document, "uri")
	switch m.kind {
	case Open:
		c.Version = t.number(document, "version")
		c.Text = t.text(document, "text")
	case Change:
		c.Version = t.number(document, "version")
		c.Changes = t.changes(params, "contentChanges")
	case Hover:
		c.Place = t.place(params, "position")
	}
	return c, !t.wrong
}

// taker takes parts out of Records, and keeps in mind whether one of them was lacking, or of another sort than it should be.
type taker struct {
	wrong bool
}

// perhaps takes a part that is of one of the sorts, if it is there.
func (t *taker) perhaps(of value.Value, key string, sorts ...api.Sort) (value.Value, bool) {
	v, there := value.Get(of, key)
	if there && !slices.Contains(sorts, v.Sort) {
		t.wrong = true
	}
	return v, there
}

// part takes one that is there, and of one of the sorts.
func (t *taker) part(of value.Value, key string, sorts ...api.Sort) value.Value {
	v, there := t.perhaps(of, key, sorts...)
	if !there {
		t.wrong = true
	}
	return v
}

func (t *taker) text(of value.Value, key string) string {
	return t.part(of, key, api.Text).Text
}

func (t *taker) number(of value.Value, key string) int {
	return t.part(of, key, api.Number).N
}

func (t *taker) place(of value.Value, key string) api.Place {
	v := t.part(of, key, api.Record)
	return api.Place{Line: t.number(v, "line"), Unit: t.number(v, "character")}
}

func (t *taker) changes(of value.Value, key string) []Edit {
	var l []Edit
	for _, v := range t.part(of, key, api.List).List {
		l = append(l, t.change(v))
	}
	return l
}

func (t *taker) change(of value.Value) Edit {
	var e Edit
	e.Text = t.text(of, "text")
	places, there := t.perhaps(of, "range", api.Record)
	if !there {
		e.Whole = true
		return e
	}
	e.From = t.place(places, "start")
	e.To = t.place(places, "end")
	return e
}
