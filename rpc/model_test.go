package rpc_test

import (
	"encoding/json"
	"maps"
	"slices"
	"strings"
	"testing"

	"bolthole/api"
	"bolthole/rpc"
	"bolthole/value"
)

// row is a line of the chapter's table, with params that have just its keys.
type row struct {
	kind    rpc.Kind
	method  string
	request bool
	params  string // none of the first three kinds
}

var rows = []row{
	{rpc.Initialize, "initialize", true, ""},
	{rpc.Shutdown, "shutdown", true, ""},
	{rpc.Exit, "exit", false, ""},
	{rpc.Open, "textDocument/didOpen", false, `{"textDocument":{"uri":"u","version":7,"text":"t"}}`},
	{rpc.Change, "textDocument/didChange", false, `{"textDocument":{"uri":"u","version":8},"contentChanges":[{"text":"a"},{"text":"b","range":{"start":{"line":1,"character":2},"end":{"line":3,"character":4}}}]}`},
	{rpc.Close, "textDocument/didClose", false, `{"textDocument":{"uri":"u"}}`},
	{rpc.Hover, "textDocument/hover", true, `{"textDocument":{"uri":"u"},"position":{"line":5,"character":6}}`},
	{rpc.Pull, "textDocument/diagnostic", true, `{"textDocument":{"uri":"u"}}`},
	{rpc.Cancel, "$/cancelRequest", false, `{"id":9}`},
}

// message is the text of one: without id or params, where that is empty.
func message(id, method, params string) string {
	if id != "" {
		id = `"id":` + id + ","
	}
	if params != "" {
		params = `,"params":` + params
	}
	return `{"jsonrpc":"2.0",` + id + `"method":"` + method + `"` + params + "}"
}

// The words of the chapter, of texts that another reader has read: Records are maps, Lists are slices, Numbers are json.Numbers.

// parsed reads a text.
func parsed(t *testing.T, s string) any {
	t.Helper()
	d := json.NewDecoder(strings.NewReader(s))
	d.UseNumber()
	var v any
	if err := d.Decode(&v); err != nil {
		t.Fatalf("%s: %v", s, err)
	}
	return v
}

// part is what stands behind keys; nil, as null, if nothing does.
func part(v any, path ...string) any {
	for _, key := range path {
		m, _ := v.(map[string]any)
		v = m[key]
	}
	return v
}

func isText(v any) bool   { _, is := v.(string); return is }
func isNumber(v any) bool { _, is := v.(json.Number); return is }
func isRecord(v any) bool { _, is := v.(map[string]any); return is }
func isList(v any) bool   { _, is := v.([]any); return is }

func textOf(v any) string { s, _ := v.(string); return s }

func numberOf(v any) int {
	n, _ := v.(json.Number)
	i, _ := n.Int64()
	return int(i)
}

// idOf is the value of an id, Null of anything else.
func idOf(v any) value.Value {
	switch {
	case isNumber(v):
		return value.Value{Sort: api.Number, N: numberOf(v)}
	case isText(v):
		return value.Value{Sort: api.Text, Text: textOf(v)}
	}
	return value.Value{}
}

func isPlace(v any) bool { return isNumber(part(v, "line")) && isNumber(part(v, "character")) }

func placeOf(v any) api.Place {
	return api.Place{Line: numberOf(part(v, "line")), Unit: numberOf(part(v, "character"))}
}

func has(v any, key string) bool {
	m, _ := v.(map[string]any)
	_, is := m[key]
	return is
}

func isChange(v any) bool {
	return isText(part(v, "text")) && (!has(v, "range") || isPlace(part(v, "range", "start")) && isPlace(part(v, "range", "end")))
}

func editOf(v any) rpc.Edit {
	return rpc.Edit{
		Edit:  api.Edit{From: placeOf(part(v, "range", "start")), To: placeOf(part(v, "range", "end")), Text: textOf(part(v, "text"))},
		Whole: !has(v, "range"),
	}
}

// isMessage tells whether v is one.
func isMessage(v any) bool {
	id, params := part(v, "id"), part(v, "params")
	return part(v, "jsonrpc") == "2.0" && isText(part(v, "method")) &&
		(!has(v, "id") || isNumber(id) || isText(id)) &&
		(!has(v, "params") || isRecord(params) || isList(params))
}

// haveAll tells whether params have what a kind's should.
func haveAll(kind rpc.Kind, p any) bool {
	uri, version := isText(part(p, "textDocument", "uri")), isNumber(part(p, "textDocument", "version"))
	changes, _ := part(p, "contentChanges").([]any)
	id := part(p, "id")
	switch kind {
	case rpc.Open:
		return uri && version && isText(part(p, "textDocument", "text"))
	case rpc.Change:
		return uri && version && isList(part(p, "contentChanges")) && !slices.ContainsFunc(changes, func(v any) bool { return !isChange(v) })
	case rpc.Close, rpc.Pull:
		return uri
	case rpc.Hover:
		return uri && isPlace(part(p, "position"))
	case rpc.Cancel:
		return isNumber(id) || isText(id)
	}
	return true
}

// told is the call of a kind whose params have what they should.
func told(kind rpc.Kind, p any) rpc.Call {
	c := rpc.Call{Kind: kind}
	switch kind {
	case rpc.Open, rpc.Change, rpc.Close, rpc.Hover, rpc.Pull:
		c.Name = textOf(part(p, "textDocument", "uri"))
	case rpc.Cancel:
		c.Other = idOf(part(p, "id"))
	}
	switch kind {
	case rpc.Open:
		c.Text = textOf(part(p, "textDocument", "text"))
		c.Version = numberOf(part(p, "textDocument", "version"))
	case rpc.Change:
		c.Version = numberOf(part(p, "textDocument", "version"))
		for _, v := range part(p, "contentChanges").([]any) {
			c.Changes = append(c.Changes, editOf(v))
		}
	case rpc.Hover:
		c.Place = placeOf(part(p, "position"))
	}
	return c
}

// wanted is Read's answer, by the words.
func wanted(v any) (rpc.Call, api.Errno) {
	if !isMessage(v) {
		return rpc.Call{}, api.ErrRequest
	}
	id := idOf(part(v, "id"))
	at := slices.IndexFunc(rows, func(r row) bool { return r.method == part(v, "method") })
	if at < 0 || rows[at].request != has(v, "id") {
		return rpc.Call{ID: id}, api.ErrMethod
	}
	kind := rows[at].kind
	if !haveAll(kind, part(v, "params")) {
		return rpc.Call{Kind: kind, ID: id}, api.ErrParams
	}
	c := told(kind, part(v, "params"))
	c.ID = id
	return c, api.OK
}

// one tells whether two calls are one.
func one(a, b rpc.Call) bool {
	return a.Kind == b.Kind && value.Same(a.ID, b.ID) && a.Name == b.Name && a.Version == b.Version && a.Text == b.Text &&
		slices.Equal(a.Changes, b.Changes) && a.Place == b.Place && value.Same(a.Other, b.Other)
}

// textOfCall is the text of a call's message, by the words.
func textOfCall(c rpc.Call) string {
	id := ""
	if c.ID.Sort != api.Null {
		id = written(c.ID)
	}
	at := slices.IndexFunc(rows, func(r row) bool { return r.kind == c.Kind })
	return message(id, rows[at].method, textOfParams(c))
}

func textOfParams(c rpc.Call) string {
	uri := `"uri":` + written(text(c.Name))
	version := `,"version":` + written(number(c.Version))
	switch c.Kind {
	case rpc.Open:
		return `{"textDocument":{` + uri + version + `,"text":` + written(text(c.Text)) + `}}`
	case rpc.Change:
		var l []string
		for _, e := range c.Changes {
			l = append(l, textOfEdit(e))
		}
		return `{"textDocument":{` + uri + version + `},"contentChanges":[` + strings.Join(l, ",") + `]}`
	case rpc.Close, rpc.Pull:
		return `{"textDocument":{` + uri + `}}`
	case rpc.Hover:
		return `{"textDocument":{` + uri + `},"position":` + textOfPlace(c.Place) + `}`
	case rpc.Cancel:
		return `{"id":` + written(c.Other) + `}`
	}
	return ""
}

func textOfEdit(e rpc.Edit) string {
	s := `{"text":` + written(text(e.Text))
	if !e.Whole {
		s += `,"range":{"start":` + textOfPlace(e.From) + `,"end":` + textOfPlace(e.To) + `}`
	}
	return s + "}"
}

func textOfPlace(p api.Place) string {
	return `{"line":` + written(number(p.Line)) + `,"character":` + written(number(p.Unit)) + `}`
}

// samples are values of each sort, to come in the place of others.
var samples = []any{
	nil, true, json.Number("0"), json.Number("-9007199254740992"), "", "x", "2.0", []any{}, []any{map[string]any{"text": "y"}},
	map[string]any{}, map[string]any{"line": json.Number("11"), "character": json.Number("-12")}, map[string]any{"uri": "v"},
}

// variants are all that comes of a tree by one change: a part is another, is missing, or is there as well. No tree is written into: they share their parts.
func variants(v any) []any {
	l := slices.Clone(samples)
	switch x := v.(type) {
	case map[string]any:
		for _, key := range slices.Sorted(maps.Keys(x)) {
			less := maps.Clone(x)
			delete(less, key)
			l = append(l, less)
			for _, p := range variants(x[key]) {
				l = append(l, with(x, key, p))
			}
		}
		for _, key := range []string{"other", "id", "version", "text", "range"} {
			if _, is := x[key]; !is {
				l = append(l, with(x, key, json.Number("13")), with(x, key, "z"))
			}
		}
	case []any:
		for i := range x {
			l = append(l, slices.Delete(slices.Clone(x), i, i+1))
			for _, p := range variants(x[i]) {
				more := slices.Clone(x)
				more[i] = p
				l = append(l, more)
			}
		}
		l = append(l, append(append([]any{}, x...), x...))
	}
	return l
}

func with(m map[string]any, key string, v any) map[string]any {
	m = maps.Clone(m)
	m[key] = v
	return m
}

// holdsModel holds Read's answer, and of a call Write's, against the words.
func holdsModel(t *testing.T, tree any) {
	t.Helper()
	b, err := json.Marshal(tree)
	if err != nil {
		t.Fatal(err)
	}
	v, e := value.Read(string(b))
	if e != api.OK {
		t.Fatalf("%s: no value: %v", b, e)
	}
	want, wantErr := wanted(tree)
	c, e := rpc.Read(v)
	if e != wantErr || !one(c, want) {
		t.Fatalf("Read(%s): %+v, %v; should be %+v, %v", b, c, e, want, wantErr)
	}
	if e == api.OK {
		goesBothWays(t, c)
	}
}

// goesBothWays holds that a call is written as it should be, and that it is read again.
func goesBothWays(t *testing.T, c rpc.Call) {
	t.Helper()
	w, e := rpc.Write(c)
	if s := written(w); e != api.OK || s != textOfCall(c) {
		t.Fatalf("Write(%+v): %s, %v; should be %s", c, s, e, textOfCall(c))
	}
	if back, e := rpc.Read(w); e != api.OK || !one(back, c) {
		t.Fatalf("Write(%+v), and Read: %+v, %v", c, back, e)
	}
}

// TestEachChangeOfAMessage changes each message of the table, as a request and as a notice, at one place, and at two.
func TestEachChangeOfAMessage(t *testing.T) {
	for _, r := range rows {
		for _, id := range []string{"", "3", `"three"`} {
			for _, params := range []string{r.params, "{}", "[]", ""} {
				tree := parsed(t, message(id, r.method, params))
				holdsModel(t, tree)
				for i, changed := range variants(tree) {
					holdsModel(t, changed)
					// Not of all at two places: that would be many times as many.
					if params != r.params || i%5 != int(r.kind)%5 {
						continue
					}
					for _, twice := range variants(changed) {
						holdsModel(t, twice)
					}
				}
			}
		}
	}
}

// TestEachMethodsParams gives each method the params of each other.
func TestEachMethodsParams(t *testing.T) {
	names := []string{"", "x", "Initialize", "textDocument/", "$/", "textDocument/didSave", "textDocument/publishDiagnostics", "exit "}
	for _, r := range rows {
		names = append(names, r.method)
	}
	for _, name := range names {
		for _, r := range rows {
			for _, id := range []string{"", "-1", `""`, "null", "[]"} {
				holdsModel(t, parsed(t, message(id, name, r.params)))
			}
		}
	}
}
