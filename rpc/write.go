package rpc

import (
	"bolthole/api"
	"bolthole/value"
)

// Write is a message of a call.
func Write(c Call) (value.Value, api.Errno) {
	m := methodOf(c.Kind)
	var parts []part
	if c.ID.Sort != api.Null {
		parts = append(parts, part{"id", copyOf(c.ID)})
	}
	parts = append(parts, part{"method", text(m.name)})
	if m.told {
		parts = append(parts, part{"params", paramsOf(c)})
	}
	v := written(parts...)
	if back, e := Read(v); e != api.OK || !same(back, c) {
		return value.Value{}, api.ErrRequest
	}
	return v, api.OK
}

// Reply is an answer.
func Reply(id, result value.Value) value.Value {
	return written(part{"id", copyOf(id)}, part{"result", copyOf(result)})
}

// Fail is an answer that tells an error.
func Fail(id value.Value, e api.Errno) value.Value {
	code, name := codeOf(e)
	fault := record(part{"code", number(code)}, part{"message", text(name)})
	return written(part{"id", copyOf(id)}, part{"error", fault})
}

// Note is a notice.
func Note(method string, params value.Value) value.Value {
	return written(part{"method", text(method)}, part{"params", copyOf(params)})
}

// Code is an error's.
func Code(e api.Errno) int {
	code, _ := codeOf(e)
	return code
}

// codeOf is an error's code, and the code's name.
func codeOf(e api.Errno) (int, string) {
	switch e {
	case api.ErrParse:
		return -32700, "ParseError"
	case api.ErrRequest, api.ErrOver:
		return -32600, "InvalidRequest"
	case api.ErrMethod:
		return -32601, "MethodNotFound"
	case api.ErrParams:
		return -32602, "InvalidParams"
	case api.ErrReady:
		return -32002, "ServerNotInitialized"
	case api.ErrCancel:
		return -32800, "RequestCancelled"
	case api.ErrVersion:
		return -32801, "ContentModified"
	}
	return -32001, "LimitExceeded"
}

// paramsOf are the params of a call whose params tell something.
func paramsOf(c Call) value.Value {
	if c.Kind == Cancel {
		return record(part{"id", copyOf(c.Other)})
	}
	name := part{"uri", text(c.Name)}
	switch c.Kind {
	case Open:
		return ofDocument(record(name, part{"version", number(c.Version)}, part{"text", text(c.Text)}))
	case Change:
		return ofDocument(record(name, part{"version", number(c.Version)}), part{"contentChanges", changes(c.Changes)})
	case Hover:
		return ofDocument(record(name), part{"position", place(c.Place)})
	}
	return ofDocument(record(name))
}

// ofDocument are params that tell of a document, and what else they tell.
func ofDocument(document value.Value, parts ...part) value.Value {
	return record(append([]part{{"textDocument", document}}, parts...)...)
}

func changes(l []Edit) value.Value {
	v := value.Value{Sort: api.List}
	for _, e := range l {
		v.List = append(v.List, change(e))
	}
	return v
}

func change(e Edit) value.Value {
	if e.Whole {
		return record(part{"text", text(e.Text)})
	}
	places := record(part{"start", place(e.From)}, part{"end", place(e.To)})
	return record(part{"text", text(e.Text)}, part{"range", places})
}

func place(p api.Place) value.Value {
	return record(part{"line", number(p.Line)}, part{"character", number(p.Unit)})
}

// part is a Record's: a key, and the value that it has.
type part struct {
	key string
	v   value.Value
}

// written is a message, or an answer, of its parts behind the first one.
func written(parts ...part) value.Value {
	return record(append([]part{{versionKey, text(version)}}, parts...)...)
}

func record(parts ...part) value.Value {
	v := value.Value{Sort: api.Record}
	for _, p := range parts {
		v.Keys = append(v.Keys, p.key)
		v.List = append(v.List, p.v)
	}
	return v
}

func text(s string) value.Value { return value.Value{Sort: api.Text, Text: s} }

func number(n int) value.Value { return value.Value{Sort: api.Number, N: n} }

// copyOf is v in memory of its own: what is answered shares none with what was handed in.
func copyOf(v value.Value) value.Value {
	c, _ := value.Get(v)
	return c
}
