package value_test

import (
	"maps"
	"math"
	"slices"
	"strings"
	"sync"
	"testing"

	"bolthole/api"
	"bolthole/value"
)

// The shapes of right values.

func null() value.Value                   { return value.Value{} }
func truth(on bool) value.Value           { return value.Value{Sort: api.Bool, On: on} }
func number(n int) value.Value            { return value.Value{Sort: api.Number, N: n} }
func text(s string) value.Value           { return value.Value{Sort: api.Text, Text: s} }
func list(l ...value.Value) value.Value   { return value.Value{Sort: api.List, List: l} }
func pair(s string, v value.Value) member { return member{s, v} }

type member struct {
	key string
	v   value.Value
}

func record(l ...member) value.Value {
	v := value.Value{Sort: api.Record}
	for _, m := range l {
		v.Keys = append(v.Keys, m.key)
		v.List = append(v.List, m.v)
	}
	return v
}

// nested is v within so many Lists and Records, by turns.
func nested(v value.Value, deep int) value.Value {
	for i := range deep {
		if i%2 == 0 {
			v = list(v)
		} else {
			v = record(pair("a", v))
		}
	}
	return v
}

// brackets are so many that open, or those that close them: all of Lists, or by turns of Records.
func brackets(many int, records bool) (open, end string) {
	for i := range many {
		if records && i%2 == 1 {
			open, end = open+`{"a":`, "}"+end
		} else {
			open, end = open+"[", "]"+end
		}
	}
	return open, end
}

// rightValues are values with their texts.
var rightValues = []struct {
	v    value.Value
	text string
}{
	{null(), "null"},
	{truth(true), "true"},
	{truth(false), "false"},
	{number(0), "0"},
	{number(7), "7"},
	{number(-7), "-7"},
	{number(10), "10"},
	{number(-100), "-100"},
	{number(1234567890), "1234567890"},
	{number(1<<53 - 1), "9007199254740991"},
	{number(1 << 53), "9007199254740992"},
	{number(-1 << 53), "-9007199254740992"},
	{text(""), `""`},
	{text("a"), `"a"`},
	{text(`"`), `"\""`},
	{text(`\`), `"\\"`},
	{text(`\"\\"`), `"\\\"\\\\\""`},
	{text("/"), `"/"`},
	{text("\x00\x01\x09\x0a\x0f\x10\x1f"), `"\u0000\u0001\u0009\u000a\u000f\u0010\u001f"`},
	{text("\b\f\n\r\t"), `"\u0008\u000c\u000a\u000d\u0009"`},
	{text(" \x7f\u0080\u00e9\u2028\ufeff\ufffd\uffff"), "\" \x7f\u0080\u00e9\u2028\ufeff\ufffd\uffff\""},
	{text("\ud7ff\ue000\U00010000\U0001f600\U0010ffff"), "\"\ud7ff\ue000\U00010000\U0001f600\U0010ffff\""},
	{text("<a & b>"), `"<a & b>"`},
	{list(), "[]"},
	{value.Value{Sort: api.List, List: []value.Value{}, Keys: []string{}}, "[]"},
	{list(null()), "[null]"},
	{list(number(1), number(-20)), "[1,-20]"},
	{list(number(1), number(1), number(1)), "[1,1,1]"},
	{list(list(), record(), list(list())), "[[],{},[[]]]"},
	{record(), "{}"},
	{value.Value{Sort: api.Record, List: []value.Value{}, Keys: []string{}}, "{}"},
	{value.Value{Sort: api.Text, Text: "a", List: []value.Value{}, Keys: []string{}}, `"a"`},
	{record(pair("a", number(1))), `{"a":1}`},
	{record(pair("", null())), `{"":null}`},
	{record(pair("b", truth(true)), pair("a", truth(false)), pair("B", text("b"))), `{"b":true,"a":false,"B":"b"}`},
	{record(pair("\"\\\n\u05d0\U0001f600", list())), "{\"\\\"\\\\\\u000a\u05d0\U0001f600\":[]}"},
	{record(pair("a", record(pair("a", record(pair("a", number(0))))))), `{"a":{"a":{"a":0}}}`},
	{list(record(pair("a", number(1))), record(pair("a", number(2)))), `[{"a":1},{"a":2}]`},
}

// wrongValues are not right, each for one reason.
var wrongValues = map[string]value.Value{
	"a sort below the first":    {Sort: -1},
	"a sort behind the last":    {Sort: 6},
	"the least sort":            {Sort: math.MinInt},
	"the greatest sort":         {Sort: math.MaxInt},
	"Null that is on":           {On: true},
	"Null with a number":        {N: 1},
	"Null with a text":          {Text: "a"},
	"Null with a list":          {List: []value.Value{{}}},
	"Null with a key":           {Keys: []string{"a"}},
	"Null with a part":          {Keys: []string{"a"}, List: []value.Value{{}}},
	"Bool with a number":        {Sort: api.Bool, On: true, N: -1},
	"Bool with a text":          {Sort: api.Bool, Text: "true"},
	"Bool with a list":          {Sort: api.Bool, List: []value.Value{{}}},
	"Bool with a key":           {Sort: api.Bool, Keys: []string{""}},
	"Number that is on":         {Sort: api.Number, On: true},
	"Number with a text":        {Sort: api.Number, N: 1, Text: "1"},
	"Number with a list":        {Sort: api.Number, List: []value.Value{{}}},
	"Number with a key":         {Sort: api.Number, Keys: []string{"a"}},
	"Number one beyond 2^53":    {Sort: api.Number, N: 1<<53 + 1},
	"Number one beyond -2^53":   {Sort: api.Number, N: -1<<53 - 1},
	"the greatest Number":       {Sort: api.Number, N: math.MaxInt},
	"the least Number":          {Sort: api.Number, N: math.MinInt},
	"Text that is on":           {Sort: api.Text, Text: "a", On: true},
	"Text with a number":        {Sort: api.Text, N: 1},
	"Text with a list":          {Sort: api.Text, List: []value.Value{{}}},
	"Text with a key":           {Sort: api.Text, Keys: []string{"a"}},
	"Text that is not right":    {Sort: api.Text, Text: "a\xff"},
	"Text of half a pair":       {Sort: api.Text, Text: "\xed\xa0\x80"},
	"List that is on":           {Sort: api.List, On: true},
	"List with a number":        {Sort: api.List, N: 1},
	"List with a text":          {Sort: api.List, Text: "a"},
	"List with a key":           {Sort: api.List, Keys: []string{"a"}},
	"List with a key a part":    {Sort: api.List, Keys: []string{"a"}, List: []value.Value{{}}},
	"List of a wrong one":       {Sort: api.List, List: []value.Value{{}, {Sort: 9}}},
	"List of a wrong text":      {Sort: api.List, List: []value.Value{{Sort: api.Text, Text: "\x80"}, {}}},
	"Record that is on":         {Sort: api.Record, On: true},
	"Record with a number":      {Sort: api.Record, N: 1},
	"Record with a text":        {Sort: api.Record, Text: "a"},
	"Record of a key alone":     {Sort: api.Record, Keys: []string{"a"}},
	"Record of a value alone":   {Sort: api.Record, List: []value.Value{{}}},
	"Record, a key too many":    {Sort: api.Record, Keys: []string{"a", "b"}, List: []value.Value{{}}},
	"Record, a value too many":  {Sort: api.Record, Keys: []string{"a"}, List: []value.Value{{}, {}}},
	"Record, a key twice":       {Sort: api.Record, Keys: []string{"a", "a"}, List: []value.Value{{}, {}}},
	"Record, a key twice, far":  {Sort: api.Record, Keys: []string{"a", "b", "c", "a"}, List: make([]value.Value, 4)},
	"Record, no key twice":      {Sort: api.Record, Keys: []string{"", ""}, List: make([]value.Value, 2)},
	"Record, a wrong key":       {Sort: api.Record, Keys: []string{"a", "\xc0\x80"}, List: make([]value.Value, 2)},
	"Record of a wrong one":     {Sort: api.Record, Keys: []string{"a"}, List: []value.Value{{On: true}}},
	"a wrong one far within":    nested(value.Value{Sort: api.Number, N: 1<<53 + 1}, 20),
	"Null, 21 deep":             nested(null(), 21),
	"an empty List, 21 deep":    nested(list(), 20),
	"an empty Record, 21 deep":  nested(record(), 20),
	"a Number, 22 deep":         nested(number(1), 22),
	"the last part is too deep": list(null(), nested(null(), 19), nested(null(), 20)),
	"very deep":                 nested(null(), 1000),
}

// goesWrong holds that a value is wrong, and isn't written.
func goesWrong(t *testing.T, why string, v value.Value) {
	t.Helper()
	if value.Right(v) {
		t.Errorf("%s: Right", why)
	}
	if s, e := value.Write(v); s != "" || e != api.ErrValue {
		t.Errorf("%s: Write: %q, %v", why, s, e)
	}
}

// goesBothWays holds that a value is right, has that text, and is read from it.
func goesBothWays(t *testing.T, v value.Value, want string) {
	t.Helper()
	if !value.Right(v) {
		t.Errorf("%s: not Right", want)
	}
	if s, e := value.Write(v); s != want || e != api.OK {
		t.Errorf("Write: %q, %v, not %q", s, e, want)
	}
	isRead(t, want, v)
}

// isRead holds that a text is read as that value, and that what is written of it is read as the same.
func isRead(t *testing.T, s string, want value.Value) {
	t.Helper()
	v, e := value.Read(s)
	if e != api.OK || !one(v, want) || !value.Right(v) || !value.Same(v, want) {
		t.Errorf("Read(%q): %v, %v, not %v", s, v, e, want)
		return
	}
	written, e := value.Write(v)
	if e != api.OK {
		t.Errorf("Write of what Read(%q) answers: %v", s, e)
	}
	again, e := value.Read(written)
	if e != api.OK || !value.Same(again, v) || !one(again, v) {
		t.Errorf("Read(%q), from %q: %v, %v", written, s, again, e)
	}
}

// isNoValue holds that a text is refused, and that nothing else is answered.
func isNoValue(t *testing.T, s string, want api.Errno) {
	t.Helper()
	if v, e := value.Read(s); e != want || !one(v, value.Value{}) || v.List != nil || v.Keys != nil {
		t.Errorf("Read(%q): %v, %v, not %v", s, v, e, want)
	}
}

// one is Same, by the words' own definition.
func one(a, b value.Value) bool {
	if a.Sort != b.Sort || a.On != b.On || a.N != b.N || a.Text != b.Text || len(a.List) != len(b.List) || len(a.Keys) != len(b.Keys) {
		return false
	}
	for i := range a.Keys {
		if a.Keys[i] != b.Keys[i] {
			return false
		}
	}
	for i := range a.List {
		if !one(a.List[i], b.List[i]) {
			return false
		}
	}
	return true
}

func TestRightValues(t *testing.T) {
	for _, x := range rightValues {
		goesBothWays(t, x.v, x.text)
		goesBothWays(t, list(x.v, x.v), "["+x.text+","+x.text+"]")
		goesBothWays(t, record(pair("x", x.v), pair("", x.v)), `{"x":`+x.text+`,"":`+x.text+`}`)
	}
}

func TestWrongValues(t *testing.T) {
	for why, v := range wrongValues {
		goesWrong(t, why, v)
		goesWrong(t, why+", in a List", list(null(), v, null()))
		goesWrong(t, why+", in a Record", record(pair("a", null()), pair("b", v)))
	}
}

// TestDeep nests values just as deep as may be, and one deeper.
func TestDeep(t *testing.T) {
	plain := []struct {
		v    value.Value
		text string
		deep int // by itself
	}{
		{null(), "null", 0}, {number(-1), "-1", 0}, {text("[[{{"), `"[[{{"`, 0},
		{list(), "[]", 1}, {record(), "{}", 1}, {list(list(), list()), "[[],[]]", 2},
	}
	for _, x := range plain {
		for deep := range 24 {
			open, end := brackets(deep, false)
			lists, s := x.v, open+x.text+end
			for range deep {
				lists = list(lists)
			}
			mixed := nested(x.v, deep)
			if deep+x.deep <= api.MaxDeep {
				goesBothWays(t, lists, s)
				isRead(t, mixedText(x.text, deep), mixed)
				continue
			}
			goesWrong(t, s, lists)
			goesWrong(t, s, mixed)
			isNoValue(t, s, api.ErrDeep)
			isNoValue(t, mixedText(x.text, deep), api.ErrDeep)
		}
	}
}

// mixedText is the text of nested.
func mixedText(s string, deep int) string {
	for i := range deep {
		if i%2 == 0 {
			s = "[" + s + "]"
		} else {
			s = `{"a":` + s + "}"
		}
	}
	return s
}

// TestWide: what is closed is open no more, and how many parts there are is not how deep they are nested.
func TestWide(t *testing.T) {
	isRead(t, "["+strings.Repeat("[],{},", 40)+"[]]", list(slices.Repeat([]value.Value{list(), record()}, 41)[:81]...))
	part := nested(list(), 18)
	s := mixedText("[]", 18)
	goesBothWays(t, list(part, part, part, null()), "["+s+","+s+","+s+",null]")
	isNoValue(t, "["+s+","+s+",["+s+"]]", api.ErrDeep)
}

func TestRightLooksAtItsLengthAlone(t *testing.T) {
	all := []value.Value{number(1), {Sort: 9}, number(3)}
	keys := []string{"a", "a", "\xff"}
	v := value.Value{Sort: api.Record, Keys: keys[:1], List: all[:1]}
	goesBothWays(t, v, `{"a":1}`)
	if !value.Same(v, record(pair("a", number(1)))) {
		t.Error("Same looks behind the length")
	}
	if x, ok := value.Get(v, "a"); !ok || !one(x, number(1)) {
		t.Errorf("Get: %v, %v", x, ok)
	}
	v.Keys = keys[1:1]
	v.List = all[1:1]
	goesBothWays(t, v, "{}")
	if _, ok := value.Get(v, "a"); ok {
		t.Error("Get looks behind the length")
	}
	if !one(list(all...), list(number(1), value.Value{Sort: 9}, number(3))) || !slices.Equal(keys, []string{"a", "a", "\xff"}) {
		t.Errorf("what was handed in has changed: %v, %q", all, keys)
	}
}

func TestSame(t *testing.T) {
	var all []value.Value
	for _, x := range rightValues {
		all = append(all, x.v, list(x.v), record(pair("a", x.v)), list(x.v, null()))
	}
	for _, v := range wrongValues {
		all = append(all, v)
	}
	all = append(all,
		record(pair("a", number(1)), pair("b", number(2))),
		record(pair("b", number(2)), pair("a", number(1))),
		record(pair("a", number(2)), pair("b", number(1))),
		list(number(1), number(2)), list(number(2), number(1)),
		text("e\u0301"), text("\u00e9"), text("A"), text("\xff"), text("\xfe"),
	)
	for _, a := range all {
		for _, b := range all {
			if value.Same(a, b) != one(a, b) {
				t.Errorf("Same(%v, %v): %v", a, b, !one(a, b))
			}
		}
	}
}

// TestSameOfEmptyLists: a list without elements may be nil or not, at each place.
func TestSameOfEmptyLists(t *testing.T) {
	for sort := api.Null; sort <= api.Record; sort++ {
		a := value.Value{Sort: sort}
		b := value.Value{Sort: sort, List: []value.Value{}, Keys: []string{}}
		for _, x := range [][2]value.Value{{a, b}, {list(a, a), list(b, a)}, {record(pair("a", a)), record(pair("a", b))}} {
			if !value.Same(x[0], x[1]) || !value.Same(x[1], x[0]) {
				t.Errorf("Same(%v, %v): false", x[0], x[1])
			}
		}
	}
}

func TestGet(t *testing.T) {
	v := record(
		pair("a", record(pair("b", number(7)), pair("", record(pair("", text("deep")))), pair("nil", null()))),
		pair("list", list(record(pair("b", number(8))))),
		pair("text", text("b")),
		pair("\u05d0", truth(true)),
		pair("empty", record()),
	)
	wrong := value.Value{Sort: api.Record, Keys: []string{"a", "a", "b", "c"}, List: []value.Value{number(1), number(2), {Sort: 9}}}
	tests := []struct {
		v    value.Value
		path []string
		want value.Value
		ok   bool
	}{
		{v, nil, v, true},
		{v, []string{}, v, true},
		{null(), nil, null(), true},
		{number(3), nil, number(3), true},
		{v, []string{"a"}, v.List[0], true},
		{v, []string{"a", "b"}, number(7), true},
		{v, []string{"a", "", ""}, text("deep"), true},
		{v, []string{"a", "nil"}, null(), true},
		{v, []string{"\u05d0"}, truth(true), true},
		{v, []string{"empty"}, record(), true},
		{v, []string{"list"}, v.List[1], true},
		{v, []string{""}, null(), false},
		{v, []string{"A"}, null(), false},
		{v, []string{"b"}, null(), false},
		{v, []string{"b", "a"}, null(), false},
		{v, []string{"a", "a"}, null(), false},
		{v, []string{"a", "b", "c"}, null(), false},
		{v, []string{"a.b"}, null(), false},
		{v, []string{"a", "nil", ""}, null(), false},
		{v, []string{"list", "b"}, null(), false},
		{v, []string{"list", "0"}, null(), false},
		{v, []string{"text", "b"}, null(), false},
		{v, []string{"empty", "a"}, null(), false},
		{v, []string{"\xff"}, null(), false},
		{null(), []string{"a"}, null(), false},
		{list(v), []string{"a"}, null(), false},
		// Values that are not right.
		{wrong, nil, wrong, true},
		{wrong, []string{"a"}, number(1), true},
		{wrong, []string{"b"}, value.Value{Sort: 9}, true},
		{wrong, []string{"c"}, null(), false},
		{value.Value{Sort: api.List, Keys: []string{"a"}, List: []value.Value{{N: 1}}}, []string{"a"}, null(), false},
		{value.Value{Keys: []string{"a"}, List: []value.Value{{N: 1}}}, []string{"a"}, null(), false},
		{value.Value{Sort: 9, Keys: []string{"a"}, List: []value.Value{{N: 1}}}, []string{"a"}, null(), false},
		{value.Value{Sort: api.Record, Keys: []string{"a"}}, []string{"a"}, null(), false},
		{value.Value{Sort: api.Record, List: []value.Value{{N: 1}}}, []string{""}, null(), false},
	}
	for _, x := range tests {
		if got, ok := value.Get(x.v, x.path...); ok != x.ok || !one(got, x.want) {
			t.Errorf("Get(%v, %q): %v, %v", x.v, x.path, got, ok)
		}
	}
}

func TestGetLooksAtItsPathAlone(t *testing.T) {
	v := record(pair("a", record(pair("b", number(7)))))
	path := []string{"a", "b", "c"}
	if x, ok := value.Get(v, path[:1]...); !ok || !one(x, v.List[0]) {
		t.Errorf("Get: %v, %v", x, ok)
	}
	if x, ok := value.Get(v, path...); ok || !one(x, null()) {
		t.Errorf("Get: %v, %v", x, ok)
	}
	if !slices.Equal(path, []string{"a", "b", "c"}) {
		t.Errorf("Get changed its path: %q", path)
	}
}

// spoil writes into each list of a value, and behind its length.
func spoil(v value.Value) {
	for i := range v.List {
		spoil(v.List[i])
		v.List[i] = value.Value{Sort: -5}
	}
	for i := range v.Keys {
		v.Keys[i] = "spoiled"
	}
	_ = append(v.List, value.Value{Sort: -6})
	_ = append(v.Keys, "behind")
}

// TestAnswersAreNewMemory writes into what is answered, and looks at all else.
func TestAnswersAreNewMemory(t *testing.T) {
	fresh := func() value.Value {
		inner := record(pair("k", list(number(1), number(2))), pair("l", text("x")))
		return record(pair("a", inner), pair("b", list(inner, inner)))
	}
	v := fresh()
	for _, path := range [][]string{nil, {"a"}, {"b"}, {"a", "k"}} {
		got, ok := value.Get(v, path...)
		if !ok {
			t.Fatalf("Get %q: false", path)
		}
		spoil(got)
		if !one(v, fresh()) {
			t.Fatalf("what Get %q answers is its argument's memory: %v", path, v)
		}
	}
	// Behind the length of a list within the argument stands more.
	wide := value.Value{Sort: api.Record, Keys: []string{"a", "kept"}[:1], List: []value.Value{number(1), number(2)}[:1]}
	got, _ := value.Get(wide)
	spoil(got)
	if wide.Keys[:2][1] != "kept" || wide.List[:2][1].N != 2 {
		t.Error("what Get answers has room in its argument")
	}
	// Two parts that share a list don't share it in the answer.
	got, _ = value.Get(v, "b")
	spoil(got.List[0])
	if !one(got.List[1], fresh().List[1].List[1]) {
		t.Errorf("two parts of what Get answers share memory: %v", got)
	}
	s, _ := value.Write(v)
	first, _ := value.Read(s)
	second, _ := value.Read(s)
	spoil(first)
	if !one(second, fresh()) {
		t.Errorf("two answers of Read share memory: %v", second)
	}
	spoil(second.List[0])
	if !one(second.List[1], fresh().List[1]) {
		t.Errorf("two parts of what Read answers share memory: %v", second)
	}
}

// TestArgumentsStay calls everything, and looks whether what was handed in is as it was.
func TestArgumentsStay(t *testing.T) {
	for _, x := range rightValues {
		v, other := list(x.v, x.v), list(x.v, x.v)
		value.Right(v)
		value.Write(v)
		value.Same(v, x.v)
		value.Get(v, "a")
		value.Get(v)
		if !one(v, other) {
			t.Errorf("%s has become %v", x.text, v)
		}
	}
}

// TestEndless hands in values that hold themselves: each call ends.
func TestEndless(t *testing.T) {
	for _, sort := range []api.Sort{api.List, api.Record, api.Null, 9} {
		loop := value.Value{Sort: sort, List: make([]value.Value, 3), Keys: []string{"a", "b", "c"}}
		if sort == api.List {
			loop.Keys = nil
		}
		for i := range loop.List {
			loop.List[i] = loop
		}
		goesWrong(t, "a loop", loop)
		goesWrong(t, "a List of a loop", list(loop))
		value.Same(loop, loop)
		value.Get(loop)
		value.Get(loop, "a", "b")
		if value.Same(loop, nested(null(), 30)) {
			t.Error("a loop is the same as another value")
		}
	}
}

// TestVeryDeep nests as deep as promises hold.
func TestVeryDeep(t *testing.T) {
	const deep = 1 << 16
	a, b := nested(number(1), deep), nested(number(1), deep)
	if !value.Same(a, b) {
		t.Error("Same: false")
	}
	if value.Same(a, nested(number(2), deep)) || value.Same(a, nested(number(1), deep-2)) {
		t.Error("Same: true")
	}
	if got, ok := value.Get(a); !ok || !value.Same(got, a) {
		t.Errorf("Get: %v", ok)
	}
	if got, ok := value.Get(record(pair("x", a)), "x"); !ok || !value.Same(got, b) {
		t.Errorf("Get: %v", ok)
	}
	goesWrong(t, "very deep", a)
}

// TestAnswersHangOnArguments asks again, in the other order, and side by side: P1 and P2.
func TestAnswersHangOnArguments(t *testing.T) {
	texts := append(slices.Sorted(maps.Keys(wrongTexts)), deepTexts()...)
	for _, x := range rightValues {
		texts = append(texts, x.text, "[ "+x.text+" ]", x.text+x.text)
	}
	type answer struct {
		v value.Value
		e api.Errno
	}
	var first []answer
	for _, s := range texts {
		v, e := value.Read(s)
		first = append(first, answer{v, e})
	}
	var all sync.WaitGroup
	for range 4 {
		all.Go(func() {
			for i, s := range slices.Backward(texts) {
				v, e := value.Read(s)
				if e != first[i].e || !one(v, first[i].v) {
					t.Errorf("Read(%q): %v, %v, then %v, %v", s, first[i].v, first[i].e, v, e)
				}
				a, e := value.Write(first[i].v)
				b, f := value.Write(v)
				if a != b || e != f || !value.Same(v, first[i].v) {
					t.Errorf("Write of %q: %q, %v, then %q, %v", s, a, e, b, f)
				}
			}
		})
	}
	all.Wait()
}
