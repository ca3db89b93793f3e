package rpc_test

import (
	"math"
	"math/rand/v2"
	"slices"
	"strings"
	"sync"
	"testing"

	"bolthole/api"
	"bolthole/rpc"
	"bolthole/value"
)

func number(n int) value.Value          { return value.Value{Sort: api.Number, N: n} }
func text(s string) value.Value         { return value.Value{Sort: api.Text, Text: s} }
func list(l ...value.Value) value.Value { return value.Value{Sort: api.List, List: l} }

// record has keys, and as many values, by turns.
func record(l ...any) value.Value {
	v := value.Value{Sort: api.Record}
	for i := 0; i < len(l); i += 2 {
		v.Keys = append(v.Keys, l[i].(string))
		v.List = append(v.List, l[i+1].(value.Value))
	}
	return v
}

// written is a value's text, to be held against another.
func written(v value.Value) string {
	s, e := value.Write(v)
	if e != api.OK {
		return "not right"
	}
	return s
}

// valueOf is the value of a text.
func valueOf(t *testing.T, s string) value.Value {
	t.Helper()
	v, e := value.Read(s)
	if e != api.OK {
		t.Fatalf("%s: no value: %v", s, e)
	}
	return v
}

func place(line, unit int) api.Place { return api.Place{Line: line, Unit: unit} }

// whole and ranged are changes.
func whole(s string) rpc.Edit { return rpc.Edit{Edit: api.Edit{Text: s}, Whole: true} }
func ranged(from, to api.Place, s string) rpc.Edit {
	return rpc.Edit{Edit: api.Edit{From: from, To: to, Text: s}}
}

// shownCalls are calls with their messages, as they are written.
var shownCalls = []struct {
	c rpc.Call
	s string
}{
	{rpc.Call{Kind: rpc.Initialize, ID: number(1)}, `{"jsonrpc":"2.0","id":1,"method":"initialize"}`},
	{rpc.Call{Kind: rpc.Shutdown, ID: text("a")}, `{"jsonrpc":"2.0","id":"a","method":"shutdown"}`},
	{rpc.Call{Kind: rpc.Exit}, `{"jsonrpc":"2.0","method":"exit"}`},
	{
		rpc.Call{Kind: rpc.Open, Name: "a.go", Version: 2, Text: "x\n\"\u05d0\U0001f600"},
		`{"jsonrpc":"2.0","method":"textDocument/didOpen","params":{"textDocument":{"uri":"a.go","version":2,"text":"x\u000a\"` + "\u05d0\U0001f600" + `"}}}`,
	},
	{
		rpc.Call{Kind: rpc.Change, Name: "u", Version: -3, Changes: []rpc.Edit{whole("a"), ranged(place(1, 2), place(3, 4), "b")}},
		`{"jsonrpc":"2.0","method":"textDocument/didChange","params":{"textDocument":{"uri":"u","version":-3},"contentChanges":[{"text":"a"},{"text":"b","range":{"start":{"line":1,"character":2},"end":{"line":3,"character":4}}}]}}`,
	},
	{
		rpc.Call{Kind: rpc.Change},
		`{"jsonrpc":"2.0","method":"textDocument/didChange","params":{"textDocument":{"uri":"","version":0},"contentChanges":[]}}`,
	},
	// A change of what stands between the same two places as a whole one's empty ones.
	{
		rpc.Call{Kind: rpc.Change, Changes: []rpc.Edit{ranged(place(0, 0), place(0, 0), ""), whole("")}},
		`{"jsonrpc":"2.0","method":"textDocument/didChange","params":{"textDocument":{"uri":"","version":0},"contentChanges":[{"text":"","range":{"start":{"line":0,"character":0},"end":{"line":0,"character":0}}},{"text":""}]}}`,
	},
	// From behind To, and places that no text has, are still places.
	{
		rpc.Call{Kind: rpc.Change, Changes: []rpc.Edit{ranged(place(9, 0), place(-1, 1<<53), "")}},
		`{"jsonrpc":"2.0","method":"textDocument/didChange","params":{"textDocument":{"uri":"","version":0},"contentChanges":[{"text":"","range":{"start":{"line":9,"character":0},"end":{"line":-1,"character":9007199254740992}}}]}}`,
	},
	{rpc.Call{Kind: rpc.Close, Name: "u"}, `{"jsonrpc":"2.0","method":"textDocument/didClose","params":{"textDocument":{"uri":"u"}}}`},
	{
		rpc.Call{Kind: rpc.Hover, ID: number(-1), Name: "u", Place: place(5, 6)},
		`{"jsonrpc":"2.0","id":-1,"method":"textDocument/hover","params":{"textDocument":{"uri":"u"},"position":{"line":5,"character":6}}}`,
	},
	{
		rpc.Call{Kind: rpc.Hover, ID: text("")},
		`{"jsonrpc":"2.0","id":"","method":"textDocument/hover","params":{"textDocument":{"uri":""},"position":{"line":0,"character":0}}}`,
	},
	{
		rpc.Call{Kind: rpc.Pull, ID: number(0), Name: "\x00"},
		`{"jsonrpc":"2.0","id":0,"method":"textDocument/diagnostic","params":{"textDocument":{"uri":"\u0000"}}}`,
	},
	{rpc.Call{Kind: rpc.Cancel, Other: number(0)}, `{"jsonrpc":"2.0","method":"$/cancelRequest","params":{"id":0}}`},
	{rpc.Call{Kind: rpc.Cancel, Other: text("")}, `{"jsonrpc":"2.0","method":"$/cancelRequest","params":{"id":""}}`},
	{rpc.Call{Kind: rpc.Cancel, Other: number(-1 << 53)}, `{"jsonrpc":"2.0","method":"$/cancelRequest","params":{"id":-9007199254740992}}`},
}

func TestShownCalls(t *testing.T) {
	for _, x := range shownCalls {
		if x.s != textOfCall(x.c) {
			t.Errorf("the words, of %+v: %s", x.c, textOfCall(x.c))
		}
		goesBothWays(t, x.c)
		if c, e := rpc.Read(valueOf(t, x.s)); e != api.OK || !one(c, x.c) {
			t.Errorf("Read(%s): %+v, %v; should be %+v", x.s, c, e, x.c)
		}
	}
}

// TestKinds: they are counted from None on, and each has a method but that.
func TestKinds(t *testing.T) {
	for i, k := range []rpc.Kind{rpc.None, rpc.Initialize, rpc.Shutdown, rpc.Exit, rpc.Open, rpc.Change, rpc.Close, rpc.Hover, rpc.Pull, rpc.Cancel} {
		if int(k) != i {
			t.Errorf("kind %d is %d", i, k)
		}
	}
}

// readAnswers are messages that are none, or are refused, or have other keys than the table's, with what is answered.
var readAnswers = []struct {
	s    string
	want rpc.Call
	e    api.Errno
}{
	// No messages.
	{`null`, rpc.Call{}, api.ErrRequest},
	{`true`, rpc.Call{}, api.ErrRequest},
	{`1`, rpc.Call{}, api.ErrRequest},
	{`"2.0"`, rpc.Call{}, api.ErrRequest},
	{`[]`, rpc.Call{}, api.ErrRequest},
	{`{}`, rpc.Call{}, api.ErrRequest},
	{`[{"jsonrpc":"2.0","id":1,"method":"shutdown"}]`, rpc.Call{}, api.ErrRequest},
	{`{"id":1,"method":"shutdown"}`, rpc.Call{}, api.ErrRequest},
	{`{"jsonrpc":"2.0","id":1}`, rpc.Call{}, api.ErrRequest},
	{`{"jsonrpc":"2","id":1,"method":"shutdown"}`, rpc.Call{}, api.ErrRequest},
	{`{"jsonrpc":"2.00","id":1,"method":"shutdown"}`, rpc.Call{}, api.ErrRequest},
	{`{"jsonrpc":2,"id":1,"method":"shutdown"}`, rpc.Call{}, api.ErrRequest},
	{`{"jsonrpc":null,"id":1,"method":"shutdown"}`, rpc.Call{}, api.ErrRequest},
	{`{"JSONRPC":"2.0","id":1,"method":"shutdown"}`, rpc.Call{}, api.ErrRequest},
	{`{"jsonrpc":"2.0","id":1,"method":null}`, rpc.Call{}, api.ErrRequest},
	{`{"jsonrpc":"2.0","id":1,"method":1}`, rpc.Call{}, api.ErrRequest},
	{`{"jsonrpc":"2.0","id":1,"method":["shutdown"]}`, rpc.Call{}, api.ErrRequest},
	{`{"jsonrpc":"2.0","id":null,"method":"shutdown"}`, rpc.Call{}, api.ErrRequest},
	{`{"jsonrpc":"2.0","id":null,"method":"exit"}`, rpc.Call{}, api.ErrRequest},
	{`{"jsonrpc":"2.0","id":true,"method":"shutdown"}`, rpc.Call{}, api.ErrRequest},
	{`{"jsonrpc":"2.0","id":[1],"method":"shutdown"}`, rpc.Call{}, api.ErrRequest},
	{`{"jsonrpc":"2.0","id":{},"method":"shutdown"}`, rpc.Call{}, api.ErrRequest},
	{`{"jsonrpc":"2.0","id":1,"method":"shutdown","params":null}`, rpc.Call{}, api.ErrRequest},
	{`{"jsonrpc":"2.0","id":1,"method":"shutdown","params":1}`, rpc.Call{}, api.ErrRequest},
	{`{"jsonrpc":"2.0","id":1,"method":"shutdown","params":"{}"}`, rpc.Call{}, api.ErrRequest},
	{`{"jsonrpc":"2.0","id":1,"method":"shutdown","params":false}`, rpc.Call{}, api.ErrRequest},
	// An answer is no message.
	{`{"jsonrpc":"2.0","id":1,"result":null}`, rpc.Call{}, api.ErrRequest},
	// ErrRequest comes first.
	{`{"jsonrpc":"1.0","id":1,"method":"x"}`, rpc.Call{}, api.ErrRequest},
	{`{"jsonrpc":"2.0","id":1,"method":"x","params":null}`, rpc.Call{}, api.ErrRequest},
	{`{"jsonrpc":"2.0","method":"shutdown","params":null}`, rpc.Call{}, api.ErrRequest},
	{`{"jsonrpc":"2.0","id":{},"method":"exit"}`, rpc.Call{}, api.ErrRequest},
	{`{"jsonrpc":"2.0","id":[],"method":"textDocument/hover","params":{}}`, rpc.Call{}, api.ErrRequest},

	// No such methods.
	{`{"jsonrpc":"2.0","method":"x"}`, rpc.Call{}, api.ErrMethod},
	{`{"jsonrpc":"2.0","method":""}`, rpc.Call{}, api.ErrMethod},
	{`{"jsonrpc":"2.0","id":1,"method":""}`, rpc.Call{ID: number(1)}, api.ErrMethod},
	{`{"jsonrpc":"2.0","id":1,"method":"x"}`, rpc.Call{ID: number(1)}, api.ErrMethod},
	{`{"jsonrpc":"2.0","id":"b","method":"x","params":[]}`, rpc.Call{ID: text("b")}, api.ErrMethod},
	{`{"jsonrpc":"2.0","id":1,"method":"Shutdown"}`, rpc.Call{ID: number(1)}, api.ErrMethod},
	{`{"jsonrpc":"2.0","id":1,"method":"shutdown "}`, rpc.Call{ID: number(1)}, api.ErrMethod},
	{`{"jsonrpc":"2.0","id":1,"method":"hover"}`, rpc.Call{ID: number(1)}, api.ErrMethod},
	{`{"jsonrpc":"2.0","method":"cancelRequest","params":{"id":1}}`, rpc.Call{}, api.ErrMethod},
	// A request without an id, and a notice with one.
	{`{"jsonrpc":"2.0","method":"initialize"}`, rpc.Call{}, api.ErrMethod},
	{`{"jsonrpc":"2.0","method":"shutdown"}`, rpc.Call{}, api.ErrMethod},
	{`{"jsonrpc":"2.0","id":1,"method":"exit"}`, rpc.Call{ID: number(1)}, api.ErrMethod},
	{`{"jsonrpc":"2.0","id":"","method":"exit"}`, rpc.Call{ID: text("")}, api.ErrMethod},
	{`{"jsonrpc":"2.0","id":1,"method":"$/cancelRequest","params":{"id":2}}`, rpc.Call{ID: number(1)}, api.ErrMethod},
	// ErrMethod comes ahead of ErrParams.
	{`{"jsonrpc":"2.0","method":"textDocument/hover","params":{}}`, rpc.Call{}, api.ErrMethod},
	{`{"jsonrpc":"2.0","id":1,"method":"textDocument/didOpen","params":[]}`, rpc.Call{ID: number(1)}, api.ErrMethod},

	// Params of any sort, or none.
	{`{"jsonrpc":"2.0","id":1,"method":"initialize","params":{}}`, rpc.Call{Kind: rpc.Initialize, ID: number(1)}, api.OK},
	{`{"jsonrpc":"2.0","id":1,"method":"initialize","params":[]}`, rpc.Call{Kind: rpc.Initialize, ID: number(1)}, api.OK},
	{`{"jsonrpc":"2.0","id":1,"method":"shutdown","params":[null]}`, rpc.Call{Kind: rpc.Shutdown, ID: number(1)}, api.OK},
	{`{"jsonrpc":"2.0","method":"exit","params":{"textDocument":{"uri":"u","version":3,"text":"t"},"id":1,"position":{"line":1,"character":1}}}`, rpc.Call{Kind: rpc.Exit}, api.OK},

	// Other keys, and another order.
	{`{"params":{},"method":"initialize","other":[1],"id":1,"jsonrpc":"2.0","result":{},"error":null}`, rpc.Call{Kind: rpc.Initialize, ID: number(1)}, api.OK},
	{
		`{"jsonrpc":"2.0","method":"textDocument/didClose","params":{"position":{"line":1,"character":1},"textDocument":{"version":3,"text":"t","uri":"u"},"id":5,"contentChanges":[{"text":""}]}}`,
		rpc.Call{Kind: rpc.Close, Name: "u"}, api.OK,
	},
	{
		`{"jsonrpc":"2.0","method":"textDocument/didChange","params":{"contentChanges":[{"rangeLength":4,"range":{"end":{"character":4,"line":3,"x":0},"x":0,"start":{"character":2,"line":1}},"text":"b"}],"textDocument":{"text":5,"version":4,"uri":"u"},"position":null}}`,
		rpc.Call{Kind: rpc.Change, Name: "u", Version: 4, Changes: []rpc.Edit{ranged(place(1, 2), place(3, 4), "b")}}, api.OK,
	},
	// With the keys of another one of the table.
	{
		`{"jsonrpc":"2.0","id":1,"method":"textDocument/diagnostic","params":{"textDocument":{"uri":"u","version":3},"position":{"line":5,"character":6}}}`,
		rpc.Call{Kind: rpc.Pull, ID: number(1), Name: "u"}, api.OK,
	},

	// Params that lack a part, or have one of another sort.
	{`{"jsonrpc":"2.0","id":1,"method":"textDocument/hover"}`, rpc.Call{Kind: rpc.Hover, ID: number(1)}, api.ErrParams},
	{`{"jsonrpc":"2.0","id":"h","method":"textDocument/hover","params":[]}`, rpc.Call{Kind: rpc.Hover, ID: text("h")}, api.ErrParams},
	{`{"jsonrpc":"2.0","id":1,"method":"textDocument/hover","params":[{"textDocument":{"uri":"u"},"position":{"line":1,"character":1}}]}`, rpc.Call{Kind: rpc.Hover, ID: number(1)}, api.ErrParams},
	{`{"jsonrpc":"2.0","id":1,"method":"textDocument/hover","params":{"textDocument":{"uri":"u"}}}`, rpc.Call{Kind: rpc.Hover, ID: number(1)}, api.ErrParams},
	{`{"jsonrpc":"2.0","id":1,"method":"textDocument/hover","params":{"textDocument":{"uri":"u"},"position":{"line":1}}}`, rpc.Call{Kind: rpc.Hover, ID: number(1)}, api.ErrParams},
	{`{"jsonrpc":"2.0","id":1,"method":"textDocument/hover","params":{"textDocument":{"uri":"u"},"position":{"line":"1","character":1}}}`, rpc.Call{Kind: rpc.Hover, ID: number(1)}, api.ErrParams},
	{`{"jsonrpc":"2.0","id":1,"method":"textDocument/diagnostic","params":{"textDocument":"u"}}`, rpc.Call{Kind: rpc.Pull, ID: number(1)}, api.ErrParams},
	{`{"jsonrpc":"2.0","id":1,"method":"textDocument/diagnostic","params":{"uri":"u"}}`, rpc.Call{Kind: rpc.Pull, ID: number(1)}, api.ErrParams},
	{`{"jsonrpc":"2.0","method":"textDocument/didClose","params":{"textDocument":{"uri":null}}}`, rpc.Call{Kind: rpc.Close}, api.ErrParams},
	{`{"jsonrpc":"2.0","method":"textDocument/didOpen","params":{"textDocument":{"uri":"u","version":1}}}`, rpc.Call{Kind: rpc.Open}, api.ErrParams},
	{`{"jsonrpc":"2.0","method":"textDocument/didOpen","params":{"textDocument":{"uri":"u","version":"1","text":""}}}`, rpc.Call{Kind: rpc.Open}, api.ErrParams},
	{`{"jsonrpc":"2.0","method":"textDocument/didChange","params":{"textDocument":{"uri":"u","version":1}}}`, rpc.Call{Kind: rpc.Change}, api.ErrParams},
	{`{"jsonrpc":"2.0","method":"textDocument/didChange","params":{"textDocument":{"uri":"u"},"contentChanges":[]}}`, rpc.Call{Kind: rpc.Change}, api.ErrParams},
	{`{"jsonrpc":"2.0","method":"textDocument/didChange","params":{"textDocument":{"uri":"u","version":1},"contentChanges":{}}}`, rpc.Call{Kind: rpc.Change}, api.ErrParams},
	{`{"jsonrpc":"2.0","method":"textDocument/didChange","params":{"textDocument":{"uri":"u","version":1},"contentChanges":[{"text":"a"},{}]}}`, rpc.Call{Kind: rpc.Change}, api.ErrParams},
	{`{"jsonrpc":"2.0","method":"textDocument/didChange","params":{"textDocument":{"uri":"u","version":1},"contentChanges":["a"]}}`, rpc.Call{Kind: rpc.Change}, api.ErrParams},
	{`{"jsonrpc":"2.0","method":"textDocument/didChange","params":{"textDocument":{"uri":"u","version":1},"contentChanges":[{"text":"a","range":null}]}}`, rpc.Call{Kind: rpc.Change}, api.ErrParams},
	{`{"jsonrpc":"2.0","method":"textDocument/didChange","params":{"textDocument":{"uri":"u","version":1},"contentChanges":[{"text":"a","range":{"start":{"line":1,"character":2}}}]}}`, rpc.Call{Kind: rpc.Change}, api.ErrParams},
	{`{"jsonrpc":"2.0","method":"textDocument/didChange","params":{"textDocument":{"uri":"u","version":1},"contentChanges":[{"text":"a","range":{"start":{"line":1,"character":2},"end":{"line":1,"unit":2}}},{"text":"a"}]}}`, rpc.Call{Kind: rpc.Change}, api.ErrParams},
	{`{"jsonrpc":"2.0","method":"$/cancelRequest"}`, rpc.Call{Kind: rpc.Cancel}, api.ErrParams},
	{`{"jsonrpc":"2.0","method":"$/cancelRequest","params":{}}`, rpc.Call{Kind: rpc.Cancel}, api.ErrParams},
	{`{"jsonrpc":"2.0","method":"$/cancelRequest","params":{"id":null}}`, rpc.Call{Kind: rpc.Cancel}, api.ErrParams},
	{`{"jsonrpc":"2.0","method":"$/cancelRequest","params":[1]}`, rpc.Call{Kind: rpc.Cancel}, api.ErrParams},
}

func TestRead(t *testing.T) {
	for _, x := range readAnswers {
		c, e := rpc.Read(valueOf(t, x.s))
		if e != x.e || !one(c, x.want) {
			t.Errorf("Read(%s): %+v, %v; should be %+v, %v", x.s, c, e, x.want, x.e)
		}
		if w, f := wanted(parsed(t, x.s)); f != x.e || !one(w, x.want) {
			t.Errorf("the words, of %s: %+v, %v", x.s, w, f)
		}
	}
}

// nested is v within so many Lists.
func nested(v value.Value, deep int) value.Value {
	for range deep {
		v = list(v)
	}
	return v
}

// loop is a value that holds itself.
func loop(sort api.Sort) value.Value {
	v := value.Value{Sort: sort, List: make([]value.Value, 4), Keys: []string{"jsonrpc", "method", "id", "params"}}
	for i := range v.List {
		v.List[i] = v
	}
	return v
}

// wrongIDs are ids that no right message has.
func wrongIDs() []value.Value {
	return []value.Value{
		{Sort: api.Bool}, {Sort: api.Bool, On: true}, {Sort: api.List}, {Sort: api.Record}, {Sort: -1}, {Sort: 6}, {Sort: math.MaxInt},
		list(number(1)), record("id", number(1)), nested(number(1), 30), loop(api.List), loop(api.Record), loop(api.Null), loop(api.Text),
		{On: true}, {N: 1}, {Text: "a"}, {List: []value.Value{{}}}, {Keys: []string{"a"}},
		number(1<<53 + 1), number(-1<<53 - 1), number(math.MaxInt), number(math.MinInt),
		{Sort: api.Number, On: true}, {Sort: api.Number, Text: "1"}, {Sort: api.Number, List: []value.Value{{}}}, {Sort: api.Number, Keys: []string{"a"}},
		text("\xff"), text("a\xed\xa0\x80"), {Sort: api.Text, N: 1}, {Sort: api.Text, On: true}, {Sort: api.Text, List: []value.Value{{}}},
	}
}

// TestReadOfWrongValues: what is not right is no message.
func TestReadOfWrongValues(t *testing.T) {
	fine := record("jsonrpc", text("2.0"), "id", number(1), "method", text("shutdown"), "params", list())
	if c, e := rpc.Read(fine); e != api.OK || !one(c, rpc.Call{Kind: rpc.Shutdown, ID: number(1)}) {
		t.Fatalf("Read: %+v, %v", c, e)
	}
	more := func(key string, v value.Value) value.Value {
		return value.Value{Sort: api.Record, Keys: append(slices.Clone(fine.Keys), key), List: append(slices.Clone(fine.List), v)}
	}
	wrong := []value.Value{
		more("id", number(2)), more("method", text("exit")), more("jsonrpc", text("2.0")), more("\xff", number(1)),
		more("other", text("\xff")), more("other", value.Value{Sort: 9}), more("other", nested(number(1), 20)),
		{Sort: api.Record, Keys: fine.Keys}, {Sort: api.Record, List: fine.List}, {Sort: api.Record, Keys: fine.Keys, List: fine.List[:3]},
		{Sort: api.Record, Keys: fine.Keys[:3], List: fine.List}, {Sort: api.Record, Keys: fine.Keys, List: fine.List, On: true},
		{Sort: api.List, Keys: fine.Keys, List: fine.List}, {Sort: 9, Keys: fine.Keys, List: fine.List}, {Keys: fine.Keys, List: fine.List},
		list(fine), loop(api.Record), loop(api.List), loop(api.Null), nested(fine, 1000),
	}
	for _, id := range wrongIDs() {
		wrong = append(wrong, id, record("jsonrpc", text("2.0"), "id", id, "method", text("shutdown")))
	}
	for i, v := range wrong {
		if c, e := rpc.Read(v); e != api.ErrRequest || !one(c, rpc.Call{}) || c.Changes != nil {
			t.Errorf("Read of wrong value %d: %+v, %v", i, c, e)
		}
	}
	if c, e := rpc.Read(more("other", nested(number(1), 19))); e != api.OK || c.Kind != rpc.Shutdown {
		t.Errorf("Read of a message with a part just deep enough: %+v, %v", c, e)
	}
}

// TestReadLooksAtLengthsAlone hands in lists behind whose lengths more stands.
func TestReadLooksAtLengthsAlone(t *testing.T) {
	keys := []string{"jsonrpc", "method", "id"}
	l := []value.Value{text("2.0"), text("exit"), number(1)}
	changes := []value.Value{record("text", text("a")), number(5)}
	if c, e := rpc.Read(value.Value{Sort: api.Record, Keys: keys[:2], List: l[:2]}); e != api.OK || c.Kind != rpc.Exit {
		t.Errorf("Read: %+v, %v", c, e)
	}
	params := record("textDocument", record("uri", text("u"), "version", number(1)), "contentChanges", list(changes[:1]...))
	c, e := rpc.Read(record("jsonrpc", text("2.0"), "method", text("textDocument/didChange"), "params", params))
	if e != api.OK || !slices.Equal(c.Changes, []rpc.Edit{whole("a")}) {
		t.Errorf("Read: %+v, %v", c, e)
	}
	c.Changes = []rpc.Edit{whole("a"), whole("b"), {Edit: api.Edit{Text: "\xff"}}}[:1]
	goesBothWays(t, c)
	if keys[2] != "id" || l[2].N != 1 || changes[1].N != 5 || c.Changes[:2][1] != whole("b") {
		t.Error("what stands behind a list was written into")
	}
}

// baseCalls has a call of each kind, all of whose fields that may be set are.
func baseCalls() []rpc.Call {
	return []rpc.Call{
		{Kind: rpc.Initialize, ID: number(1)},
		{Kind: rpc.Shutdown, ID: number(1)},
		{Kind: rpc.Exit},
		{Kind: rpc.Open, Name: "u", Version: 1, Text: "t"},
		{Kind: rpc.Change, Name: "u", Version: 1, Changes: []rpc.Edit{whole("a"), ranged(place(1, 2), place(3, 4), "b")}},
		{Kind: rpc.Close, Name: "u"},
		{Kind: rpc.Hover, ID: number(1), Name: "u", Place: place(1, 2)},
		{Kind: rpc.Pull, ID: number(1), Name: "u"},
		{Kind: rpc.Cancel, Other: text("c")},
	}
}

// The parts that calls are made of, right ones and others.
var (
	someTexts   = []string{"", "v", "\u05d0\U0001f600", "\x00\"\\", strings.Repeat("long", 30), "\xff", "a\xc0\x80"}
	someNumbers = []int{0, 1, -7, 1 << 53, -1 << 53, 1<<53 + 1, -1<<53 - 1, math.MaxInt, math.MinInt}
)

func someIDs() []value.Value {
	l := []value.Value{{}, number(0), number(-5), number(1 << 53), text(""), text("\u05d0"), text(strings.Repeat("x", 200))}
	// Without elements, a list may be nil or not.
	l = append(l, value.Value{Sort: api.Number, N: 3, List: []value.Value{}, Keys: []string{}}, value.Value{List: []value.Value{}})
	return append(l, wrongIDs()...)
}

func someChanges() [][]rpc.Edit {
	l := [][]rpc.Edit{nil, {}, {whole(""), whole(""), whole("")}, slices.Repeat([]rpc.Edit{ranged(place(0, 1), place(2, 3), "x"), whole("y")}, 50)}
	for _, s := range someTexts {
		l = append(l, []rpc.Edit{whole(s)}, []rpc.Edit{whole("a"), ranged(place(0, 0), place(0, 0), s)})
	}
	for _, n := range someNumbers {
		for _, p := range []api.Place{place(n, 0), place(0, n)} {
			l = append(l, []rpc.Edit{ranged(p, place(0, 0), "")}, []rpc.Edit{ranged(place(0, 0), p, "")})
			// A whole one has no places.
			l = append(l, []rpc.Edit{{Edit: api.Edit{From: p}, Whole: true}}, []rpc.Edit{whole(""), {Edit: api.Edit{To: p, Text: "a"}, Whole: true}})
		}
	}
	return l
}

// changedCalls are all that comes of a call by one change of a field.
func changedCalls(c rpc.Call) []rpc.Call {
	l := []rpc.Call{c}
	add := func(change func(c *rpc.Call)) {
		x := c
		change(&x)
		l = append(l, x)
	}
	for kind := rpc.Kind(-2); kind < 13; kind++ {
		add(func(c *rpc.Call) { c.Kind = kind })
	}
	for _, id := range someIDs() {
		add(func(c *rpc.Call) { c.ID = id })
		add(func(c *rpc.Call) { c.Other = id })
	}
	for _, s := range someTexts {
		add(func(c *rpc.Call) { c.Name = s })
		add(func(c *rpc.Call) { c.Text = s })
	}
	for _, n := range someNumbers {
		add(func(c *rpc.Call) { c.Version = n })
		add(func(c *rpc.Call) { c.Place.Line = n })
		add(func(c *rpc.Call) { c.Place.Unit = n })
	}
	for _, changes := range someChanges() {
		add(func(c *rpc.Call) { c.Changes = changes })
	}
	return l
}

func rightText(s string) bool     { return value.Right(text(s)) }
func rightNumber(n int) bool      { return value.Right(number(n)) }
func rightPlace(p api.Place) bool { return rightNumber(p.Line) && rightNumber(p.Unit) }
func rightID(v value.Value) bool {
	return (v.Sort == api.Number || v.Sort == api.Text) && value.Right(v)
}
func isNull(v value.Value) bool { return value.Same(v, value.Value{}) }
func isOf(k rpc.Kind, l string) bool {
	return strings.Contains(l, string(rune('0'+k)))
}

func rightEdit(e rpc.Edit) bool {
	if e.Whole && (e.From != api.Place{} || e.To != api.Place{}) {
		return false
	}
	return rightText(e.Text) && rightPlace(e.From) && rightPlace(e.To)
}

// mayBeRead tells whether a call is one that Read could answer, by the words.
func mayBeRead(c rpc.Call) bool {
	if c.Kind < rpc.Initialize || c.Kind > rpc.Cancel {
		return false
	}
	// By the kinds' numbers, those whose calls have each of the fields.
	id, name, version, place := isOf(c.Kind, "1278"), isOf(c.Kind, "45678"), isOf(c.Kind, "45"), c.Kind == rpc.Hover
	return (id && rightID(c.ID) || !id && isNull(c.ID)) &&
		(name && rightText(c.Name) || c.Name == "") &&
		(version && rightNumber(c.Version) || c.Version == 0) &&
		(c.Kind == rpc.Open && rightText(c.Text) || c.Text == "") &&
		(c.Kind == rpc.Change && !slices.ContainsFunc(c.Changes, func(e rpc.Edit) bool { return !rightEdit(e) }) || len(c.Changes) == 0) &&
		(place && rightPlace(c.Place) || c.Place == api.Place{}) &&
		(c.Kind == rpc.Cancel && rightID(c.Other) || c.Kind != rpc.Cancel && isNull(c.Other))
}

// holdsWrite holds Write's answer against the words; whether it is OK.
func holdsWrite(t *testing.T, c rpc.Call) bool {
	t.Helper()
	if mayBeRead(c) {
		goesBothWays(t, c)
		return true
	}
	if v, e := rpc.Write(c); e != api.ErrRequest || !isNull(v) || v.Keys != nil || v.List != nil {
		t.Fatalf("Write of a call of kind %d that no message has: %v, %v", c.Kind, written(v), e)
	}
	return false
}

// TestWrite changes a call of each kind at one field, and at several.
func TestWrite(t *testing.T) {
	fine, refused := 0, 0
	hold := func(c rpc.Call) {
		if holdsWrite(t, c) {
			fine++
		} else {
			refused++
		}
	}
	hold(rpc.Call{})
	r := rand.New(rand.NewPCG(4, 1))
	for _, base := range baseCalls() {
		if !mayBeRead(base) {
			t.Fatalf("the words, of %+v", base)
		}
		for _, c := range changedCalls(base) {
			hold(c)
			many := 2
			if mayBeRead(c) {
				many = 100
			}
			l := changedCalls(c)
			for range many {
				hold(l[r.IntN(len(l))])
			}
		}
	}
	if fine < 2000 || refused < 2000 {
		t.Errorf("%d fine, %d refused", fine, refused)
	}
}

// TestWriteRefuses has calls written out that no message has.
func TestWriteRefuses(t *testing.T) {
	for why, c := range map[string]rpc.Call{
		"no kind":                          {},
		"no kind, with an id":              {ID: number(1)},
		"a kind below the first":           {Kind: -1},
		"a kind behind the last":           {Kind: 10},
		"a request without an id":          {Kind: rpc.Shutdown},
		"a request with another id":        {Kind: rpc.Shutdown, ID: value.Value{Sort: api.Bool}},
		"a request with a number too far":  {Kind: rpc.Initialize, ID: number(1<<53 + 1)},
		"a notice with an id":              {Kind: rpc.Exit, ID: number(1)},
		"a notice with a Null that is on":  {Kind: rpc.Exit, ID: value.Value{On: true}},
		"Initialize with a name":           {Kind: rpc.Initialize, ID: number(1), Name: "u"},
		"Exit with a text":                 {Kind: rpc.Exit, Text: "t"},
		"Shutdown with a version":          {Kind: rpc.Shutdown, ID: number(1), Version: 1},
		"Open with a wrong name":           {Kind: rpc.Open, Name: "\xff"},
		"Open with a wrong text":           {Kind: rpc.Open, Text: "\xff"},
		"Open with a version too far":      {Kind: rpc.Open, Version: 1<<53 + 1},
		"Open with a change":               {Kind: rpc.Open, Changes: []rpc.Edit{whole("a")}},
		"Change with a text":               {Kind: rpc.Change, Text: "t"},
		"Change, whole, with a place":      {Kind: rpc.Change, Changes: []rpc.Edit{{Edit: api.Edit{To: place(0, 1)}, Whole: true}}},
		"Change with a wrong text, ranged": {Kind: rpc.Change, Changes: []rpc.Edit{whole("a"), ranged(place(0, 0), place(0, 0), "\xff")}},
		"Change with a place too far":      {Kind: rpc.Change, Changes: []rpc.Edit{ranged(place(-1<<53-1, 0), place(0, 0), "")}},
		"Close with a version":             {Kind: rpc.Close, Version: 1},
		"Close with another id":            {Kind: rpc.Close, Other: number(1)},
		"Hover without an id":              {Kind: rpc.Hover, Name: "u", Place: place(1, 1)},
		"Hover with a version":             {Kind: rpc.Hover, ID: number(1), Version: 1},
		"Hover with a place too far":       {Kind: rpc.Hover, ID: number(1), Place: place(0, math.MaxInt)},
		"Pull with a place":                {Kind: rpc.Pull, ID: number(1), Place: place(1, 0)},
		"Cancel of nothing":                {Kind: rpc.Cancel},
		"Cancel of another value":          {Kind: rpc.Cancel, Other: list()},
		"Cancel with a name":               {Kind: rpc.Cancel, Other: number(1), Name: "u"},
	} {
		if v, e := rpc.Write(c); e != api.ErrRequest || !isNull(v) {
			t.Errorf("%s: %s, %v", why, written(v), e)
		}
		if mayBeRead(c) {
			t.Errorf("the words, of %s", why)
		}
	}
}

func TestReply(t *testing.T) {
	for want, got := range map[string]value.Value{
		`{"jsonrpc":"2.0","id":1,"result":null}`:                          rpc.Reply(number(1), value.Value{}),
		`{"jsonrpc":"2.0","id":"a","result":{"capabilities":{}}}`:         rpc.Reply(text("a"), record("capabilities", record())),
		`{"jsonrpc":"2.0","id":null,"result":[1,true]}`:                   rpc.Reply(value.Value{}, list(number(1), value.Value{Sort: api.Bool, On: true})),
		`{"jsonrpc":"2.0","id":[],"result":"\u000a\""}`:                   rpc.Reply(list(), text("\n\"")),
		`{"jsonrpc":"2.0","method":"m","params":{"uri":"u","list":[{}]}}`: rpc.Note("m", record("uri", text("u"), "list", list(record()))),
		`{"jsonrpc":"2.0","method":"","params":null}`:                     rpc.Note("", value.Value{}),
		`{"jsonrpc":"2.0","method":"textDocument/didOpen","params":[]}`:   rpc.Note("textDocument/didOpen", list()),
	} {
		if written(got) != want {
			t.Errorf("%s; should be %s", written(got), want)
		}
	}
}

// codes are all errors' codes, and their names.
var codes = []struct {
	e    api.Errno
	code int
	name string
}{
	{api.ErrParse, -32700, "ParseError"},
	{api.ErrRequest, -32600, "InvalidRequest"},
	{api.ErrOver, -32600, "InvalidRequest"},
	{api.ErrMethod, -32601, "MethodNotFound"},
	{api.ErrParams, -32602, "InvalidParams"},
	{api.ErrReady, -32002, "ServerNotInitialized"},
	{api.ErrCancel, -32800, "RequestCancelled"},
	{api.ErrVersion, -32801, "ContentModified"},
}

func TestFailAndCode(t *testing.T) {
	for n := -300; n < 1000; n++ {
		holdsCode(t, api.Errno(n))
	}
	for _, e := range []api.Errno{api.OK, api.ErrFull, api.ErrLine, math.MaxInt, math.MinInt, -32700, 1<<32 + 41} {
		holdsCode(t, e)
	}
}

// holdsCode holds what is told of an error against codes.
func holdsCode(t *testing.T, e api.Errno) {
	t.Helper()
	want, name := -32001, "LimitExceeded"
	for _, x := range codes {
		if x.e == e {
			want, name = x.code, x.name
		}
	}
	if got := rpc.Code(e); got != want {
		t.Errorf("Code(%d): %d; should be %d", int(e), got, want)
	}
	for _, id := range []value.Value{{}, number(3), text("a")} {
		s := `{"jsonrpc":"2.0","id":` + written(id) + `,"error":{"code":` + written(number(want)) + `,"message":"` + name + `"}}`
		if got := written(rpc.Fail(id, e)); got != s {
			t.Errorf("Fail(%s, %d): %s; should be %s", written(id), int(e), got, s)
		}
	}
}

// TestAnswersOfWrongValues: whatever comes in stands in the answer, right or not.
func TestAnswersOfWrongValues(t *testing.T) {
	for i, v := range append(wrongIDs(), nested(number(1), 1000), record("a", list(text("\xff")))) {
		for _, got := range []value.Value{rpc.Reply(v, v), rpc.Fail(v, api.ErrParse), rpc.Note("\xff", v)} {
			if got.Sort != api.Record || len(got.Keys) != 3 || len(got.List) != 3 {
				t.Errorf("of wrong value %d: %v, %d parts", i, got.Keys, len(got.List))
			}
		}
		// Of one that holds itself nothing is promised but an end.
		if value.Same(v, v) && (!value.Same(rpc.Reply(v, number(1)).List[1], v) || !value.Same(rpc.Reply(number(1), v).List[2], v) || !value.Same(rpc.Note("", v).List[2], v)) {
			t.Errorf("wrong value %d does not stand in its answer", i)
		}
	}
}

// spoil writes into each list of a value, and behind its length.
func spoil(v value.Value) {
	for i := range v.List {
		spoil(v.List[i])
		v.List[i] = value.Value{Sort: -5}
	}
	for i := range v.Keys {
		v.Keys[i] = "spoiled"
	}
	_ = append(v.List, value.Value{Sort: -6})
	_ = append(v.Keys, "behind")
}

// TestAnswersAreNewMemory writes into what is answered, and looks at all else.
func TestAnswersAreNewMemory(t *testing.T) {
	inner := list(record("a", number(1)), list(text("b")))
	fresh := written(inner)
	for i, answer := range []value.Value{rpc.Reply(inner, inner), rpc.Note("m", list(inner, inner)), rpc.Fail(inner, api.ErrParse)} {
		all := written(answer)
		spoil(answer.List[1])
		if written(inner) != fresh {
			t.Fatalf("answer %d shares memory with its argument", i)
		}
		if i == 0 && written(answer.List[2]) != fresh {
			t.Fatalf("two parts of %s share memory", all)
		}
		spoil(answer)
		if written(inner) != fresh {
			t.Fatalf("answer %d shares memory with its argument", i)
		}
	}
	twice := rpc.Note("m", list(inner, inner)).List[2]
	spoil(twice.List[0])
	if written(twice.List[1]) != fresh {
		t.Fatal("two parts of an answer share memory")
	}
	// Behind the length of a list that is handed in more stands.
	wide := []value.Value{number(1), number(2)}
	spoil(rpc.Reply(number(1), list(wide[:1]...)))
	if wide[0].N != 1 || wide[1].N != 2 {
		t.Error("what Reply answers has room in its argument")
	}
}

// TestCallsAreNewMemory writes into what Read and Write answer, and into what they were given.
func TestCallsAreNewMemory(t *testing.T) {
	for _, x := range shownCalls {
		v := valueOf(t, x.s)
		c, _ := rpc.Read(v)
		spoil(v)
		if !one(c, x.c) {
			t.Fatalf("what Read answers of %s has become %+v", x.s, c)
		}
		w, _ := rpc.Write(c)
		again, _ := rpc.Write(c)
		spoil(w)
		if !one(c, x.c) || written(again) != x.s {
			t.Fatalf("what Write answers of %s is other memory: %+v, %s", x.s, c, written(again))
		}
		for i := range c.Changes {
			c.Changes[i] = whole("spoiled")
		}
		_ = append(c.Changes, whole("behind"))
		if written(again) != x.s {
			t.Fatalf("Write keeps its argument: %s", written(again))
		}
	}
	// An id without elements in its list, but with room for some.
	id := value.Value{Sort: api.Number, N: 1, List: []value.Value{number(7)}[:0], Keys: []string{"kept"}[:0]}
	w, e := rpc.Write(rpc.Call{Kind: rpc.Shutdown, ID: id})
	c, f := rpc.Read(w)
	if e != api.OK || f != api.OK {
		t.Fatal(e, f)
	}
	other, e := rpc.Write(rpc.Call{Kind: rpc.Cancel, Other: id})
	if e != api.OK {
		t.Fatal(e)
	}
	spoil(w.List[1])
	spoil(c.ID)
	spoil(other.List[2].List[0])
	spoil(rpc.Fail(id, api.OK).List[1])
	if id.List[:1][0].N != 7 || id.Keys[:1][0] != "kept" {
		t.Error("an answer has room in its argument")
	}
}

// TestArgumentsStay calls everything, and looks whether what was handed in is as it was.
func TestArgumentsStay(t *testing.T) {
	for _, x := range shownCalls {
		v, c := valueOf(t, x.s), x.c
		c.Changes = slices.Clone(c.Changes)
		rpc.Read(v)
		rpc.Write(c)
		rpc.Reply(v, v)
		rpc.Fail(v, api.ErrFull)
		rpc.Note("m", v)
		if written(v) != x.s || !one(c, x.c) {
			t.Errorf("%s has become %s, %+v", x.s, written(v), c)
		}
	}
}

// TestVeryDeep nests a result as deep as promises hold.
func TestVeryDeep(t *testing.T) {
	v := nested(number(1), 1<<16)
	got := rpc.Reply(number(1), v)
	if !value.Same(got.List[2], v) {
		t.Error("Reply has another result")
	}
	if c, e := rpc.Read(got); e != api.ErrRequest || !one(c, rpc.Call{}) {
		t.Errorf("Read: %+v, %v", c, e)
	}
	if _, e := rpc.Write(rpc.Call{Kind: rpc.Shutdown, ID: v}); e != api.ErrRequest {
		t.Errorf("Write: %v", e)
	}
}

// TestMany changes a document by very many changes.
func TestMany(t *testing.T) {
	c := rpc.Call{Kind: rpc.Change, Name: "u", Version: 1}
	for i := range 20000 {
		c.Changes = append(c.Changes, ranged(place(i, 1), place(i, 2), "x"), whole("y"))
	}
	goesBothWays(t, c)
}

// TestAnswersHangOnArguments asks again, in the other order, and side by side: P1 and P2.
func TestAnswersHangOnArguments(t *testing.T) {
	type answer struct {
		v    value.Value
		c    rpc.Call
		e    api.Errno
		text string
	}
	var all []answer
	for _, x := range readAnswers {
		v := valueOf(t, x.s)
		c, e := rpc.Read(v)
		w, _ := rpc.Write(c)
		all = append(all, answer{v, c, e, written(w)})
	}
	var done sync.WaitGroup
	for range 4 {
		done.Go(func() {
			for _, a := range slices.Backward(all) {
				c, e := rpc.Read(a.v)
				w, _ := rpc.Write(a.c)
				if e != a.e || !one(c, a.c) || written(w) != a.text {
					t.Errorf("%s: %+v, %v, %s, then %+v, %v, %s", written(a.v), a.c, a.e, a.text, c, e, written(w))
				}
				r, s := rpc.Reply(a.c.ID, a.v), rpc.Note("m", a.v)
				if !value.Same(r.List[2], a.v) || !value.Same(s.List[2], a.v) || rpc.Code(e) != rpc.Code(a.e) {
					t.Errorf("answers of %s: %v, %v", written(a.v), r, s)
				}
			}
		})
	}
	done.Wait()
}
