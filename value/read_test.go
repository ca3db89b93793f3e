package value_test

import (
	"encoding/json"
	"strconv"
	"strings"
	"testing"
	"unicode/utf8"

	"bolthole/api"
	"bolthole/value"
)

// wrongTexts are no value's, each for one reason.
var wrongTexts = map[string]string{
	"":                              "nothing",
	" \t\n\r":                       "blanks alone",
	"nul":                           "cut off",
	"tru":                           "cut off",
	"fals":                          "cut off",
	"Null":                          "large letters",
	"TRUE":                          "large letters",
	"nulll":                         "more behind it",
	"truefalse":                     "two values",
	"true false":                    "two values",
	"1 2":                           "two values",
	"[] []":                         "two values",
	"{}{}":                          "two values",
	`"a" "b"`:                       "two values",
	"undefined":                     "no word",
	"n ull":                         "a blank within a word",
	"a":                             "no word",
	"'a'":                           "no quotes",
	"`a`":                           "no quotes",
	"\x00":                          "no blank",
	"\v1":                           "no blank",
	"1\f":                           "no blank",
	"1\x00":                         "no blank",
	"1\u00a0":                       "no blank",
	"\u00a01":                       "no blank",
	"\u2028[]":                      "no blank",
	"[\u00851]":                     "no blank",
	"\ufeff1":                       "no blank",
	"1 // a":                        "a remark",
	"/**/1":                         "a remark",
	"-":                             "no figures",
	"+1":                            "a plus",
	"--1":                           "two signs",
	"- 1":                           "a blank within a number",
	"1 0":                           "a blank within a number",
	"1_000":                         "a stroke within a number",
	"1-1":                           "a sign within a number",
	"1-":                            "a sign behind a number",
	"-0":                            "below 0, it is not",
	"00":                            "a needless nought",
	"01":                            "a needless nought",
	"-01":                           "a needless nought",
	"-00":                           "a needless nought",
	"007":                           "needless noughts",
	"1.5":                           "no whole number",
	"1.0":                           "no whole number",
	"1.":                            "no whole number",
	".5":                            "no whole number",
	"1e3":                           "no whole number's way",
	"1E3":                           "no whole number's way",
	"0x10":                          "no decimal figures",
	"\u0661":                        "no figure",
	"NaN":                           "no number",
	"Infinity":                      "no number",
	"9007199254740993":              "one beyond 2^53",
	"-9007199254740993":             "one beyond -2^53",
	"9223372036854775807":           "beyond 2^53",
	"9223372036854775808":           "beyond 2^63",
	"-9223372036854775809":          "beyond -2^63",
	"18446744073709551616":          "2^64: 0, if it wraps round",
	"18446744073709551617":          "beyond 2^64: 1, if it wraps round",
	"-18446744073709551617":         "beyond -2^64",
	"99999999999999999999999999999": "far beyond",
	"[1.5]":                         "a part is wrong",
	"[9007199254740993]":            "a part is wrong",
	`"`:                             "a text without an end",
	`"a`:                            "a text without an end",
	`"a\"`:                          "a text without an end",
	`"a\`:                           "a text without an end",
	`"\u00`:                         "a text without an end",
	`"\u0061`:                       "a text without an end",
	`a"`:                            "a text without its beginning",
	`"""`:                           "a text begins behind one",
	"\"\x00\"":                      "a byte below 32",
	"\"\n\"":                        "a byte below 32",
	"\"\t\"":                        "a byte below 32",
	"\"a\x1f\"":                     "a byte below 32",
	"\"\\\n\"":                      "a byte below 32, behind a stroke",
	"\"\\\x00\"":                    "a byte below 32, behind a stroke",
	`"\a"`:                          "no such letter",
	`"\v"`:                          "no such letter",
	`"\0"`:                          "no such letter",
	`"\x41"`:                        "no such letter",
	`"\'"`:                          "no such letter",
	`"\ "`:                          "no such letter",
	`"\N"`:                          "a large letter",
	`"\B"`:                          "a large letter",
	`"\U0041"`:                      "a large letter",
	"\"\\\u05d0\"":                  "no such letter",
	`"\u"`:                          "no figures",
	`"\u1"`:                         "too few figures",
	`"\u12"`:                        "too few figures",
	`"\u123"`:                       "too few figures",
	`"\u123g"`:                      "no figure",
	`"\ug123"`:                      "no figure",
	`"\u 123"`:                      "no figure",
	`"\u+123"`:                      "no figure",
	`"\u-123"`:                      "no figure",
	`"\u0x1f"`:                      "no figure",
	`"\u1_23"`:                      "no figure",
	"\"\\u12\x103\"":                "no figure",
	"\"\\u12@3\"":                   "no figure",
	"\"\\u12`3\"":                   "no figure",
	"\"\\u12\u05d0\"":               "no figure",
	`"\u{41}"`:                      "no figure",
	`"\ud800"`:                      "half a pair",
	`"\udbff"`:                      "half a pair",
	`"\udc00"`:                      "half a pair",
	`"\udfff"`:                      "half a pair",
	`"\uD800"`:                      "half a pair",
	`"\uDFFF"`:                      "half a pair",
	`"\ud800a"`:                     "half a pair",
	`"\ud800\n"`:                    "half a pair",
	`"\ud800dc00"`:                  "half a pair",
	`"\ud800\\udc00"`:               "half a pair",
	`"\ud800 \udc00"`:               "half a pair",
	`"\ud800\udbff"`:                "two first halves",
	`"\ud800\ud800\udc00"`:          "two first halves",
	`"\ud83d\ue000"`:                "half a pair, and another scalar",
	`"\ud83d\u0041"`:                "half a pair, and another scalar",
	`"\udc00\ud800"`:                "a pair the wrong way round",
	`"\udc00\udc00"`:                "two second halves",
	`"\ud83d\ude00\ude00"`:          "half a pair behind a pair",
	`"\ud83d\ude"`:                  "too few figures",
	`"\ud83d\`:                      "a text without an end",
	`"\ud83d`:                       "a text without an end",
	"\"\\ud83d\U0001f600\"":         "half a pair, and another scalar",
	"[":                             "a list without an end",
	"[1":                            "a list without an end",
	"[1,":                           "a list without an end",
	"[[]":                           "a list without an end",
	"]":                             "an end without a list",
	"[]]":                           "an end without a list",
	"[1,]":                          "no value behind a comma",
	"[,1]":                          "no value ahead of a comma",
	"[,]":                           "a comma alone",
	"[1,,2]":                        "no value between commas",
	"[1 2]":                         "no comma",
	"[1;2]":                         "no comma",
	"[1:2]":                         "no comma",
	"[[][]]":                        "no comma",
	`["a":1]`:                       "a list with a key",
	"[1}":                           "another bracket",
	"[}":                            "another bracket",
	"(1)":                           "another bracket",
	"{":                             "a record without an end",
	"{ ":                            "a record without an end",
	`{"a`:                           "a record without an end",
	`{"a"`:                          "a record without an end",
	`{"a" `:                         "a record without an end",
	`{"a":`:                         "a record without an end",
	`{"a":1`:                        "a record without an end",
	`{"a":1,`:                       "a record without an end",
	"}":                             "an end without a record",
	"{}}":                           "an end without a record",
	`{"a"}`:                         "a key alone",
	`{"a":}`:                        "a key alone",
	`{"a",}`:                        "a key alone",
	`{"a","b":1}`:                   "a key alone",
	"{1}":                           "a value alone",
	"{:1}":                          "a value alone",
	"{1:2}":                         "a key that is no text",
	"{a:1}":                         "a key that is no text",
	"{null:1}":                      "a key that is no text",
	"{[]:1}":                        "a key that is no text",
	`{'a':1}`:                       "a key that is no text",
	`{"a\q":1}`:                     "a key that is wrong",
	`{"\ud800":1}`:                  "a key that is wrong",
	`{"a"1}`:                        "no colon",
	`{"a" 1}`:                       "no colon",
	`{"a"=1}`:                       "no colon",
	`{"a",1}`:                       "no colon",
	`{"a"::1}`:                      "two colons",
	`{"a":1:2}`:                     "two colons",
	`{"a":1,}`:                      "no key behind a comma",
	`{,"a":1}`:                      "no key ahead of a comma",
	"{,}":                           "a comma alone",
	`{"a":1,,"b":2}`:                "no key between commas",
	`{"a":1 "b":2}`:                 "no comma",
	`{"a":1;"b":2}`:                 "no comma",
	`{"a":1]`:                       "another bracket",
	"{]":                            "another bracket",
	`{"a":1,"a":1}`:                 "a key twice",
	`{"a":1,"a":2}`:                 "a key twice",
	`{"":1,"":2}`:                   "a key twice",
	`{"a":1,"b":2,"c":3,"a":4}`:     "a key twice",
	`{"a":1,"\u0061":2}`:            "a key twice, once otherwise written",
	`{"\ud83d\ude00":1,"😀":2}`:      "a key twice, once otherwise written",
	`{"\/":1,"/":2}`:                "a key twice, once otherwise written",
	`[{"a":{"b":1,"b":2}}]`:         "a key twice, within",
	`{"a":1,"a":`:                   "a key twice, and no end",
}

func TestWrongTexts(t *testing.T) {
	for s := range wrongTexts {
		isNoValue(t, s, api.ErrValue)
		isNoValue(t, " "+s+"\n", api.ErrValue)
		isNoValue(t, "[1, "+s+" ,x", api.ErrValue)
	}
}

// TestTextsOfWrongBytes: that the text is not right is told ahead of all else, wherever it is so.
func TestTextsOfWrongBytes(t *testing.T) {
	deep := strings.Repeat("[", 21)
	for _, b := range []string{"\xff", "\x80", "\xc0\x80", "\xed\xa0\x80", "\xed\xa0\xbd\xed\xb8\x80", "\xf4\x90\x80\x80", "\xe6\x96", "\xf0\x9f\x98"} {
		for _, s := range []string{b, `"` + b + `"`, "1" + b, b + "1", "1 " + b, `{"` + b + `":1}`, "[1," + b + "]", `"\` + b + `"`, `"\u00` + b + `"`, "x" + b, deep + b, b + deep, deep + strings.Repeat("]", 21) + b} {
			isNoValue(t, s, api.ErrUtf)
		}
	}
}

// deepTexts open a bracket too many, ahead of anything wrong.
func deepTexts() []string {
	var l []string
	for _, records := range []bool{false, true} {
		open, end := brackets(20, records)
		l = append(l, open+"["+"]"+end, open+"["+end, open+"[", open+"{", open+"{}"+end, open+" \n[", open+"[x", open+"[\"", open+"[1 2]", open+"{{", open+"[[[[", open+"[}", open+"[]]]]")
	}
	open, _ := brackets(20, false)
	l = append(l, open+"1,[", open+"[]", open+"null , \"[\",\t{", open+`"\ud83d\ude00",{`)
	open, _ = brackets(19, false)
	l = append(l, open+"[],{},[[", open+"[],{\"a\":[", open+"{\"a\":1,\"b\":{")
	records := strings.Repeat(`{"a":`, 20)
	return append(l, records+"[", records+"{", records+"{\"a\":1}", strings.Repeat("[", 1000), strings.Repeat("[", 21)+"\""+strings.Repeat("]", 21), "[0,"+open+"[")
}

// openAndWrong have something wrong ahead of the bracket that is too many, or just there, or none that is too many.
func openAndWrong() []string {
	many := strings.Repeat("[", 30)
	var l []string
	for _, s := range []string{"x", "1 ", "01,", "1.5,", "9007199254740993,", "-,", `"\q",`, `"\ud800",`, `"a`, "\"\n\",", "]", "[]", "{}", ",", ":", "nul,", "null", `{"a":1,"a":`, `{"a"`, "{", `{"a":1,`, `{1:`, "[1,]", "{]"} {
		l = append(l, "["+s+many, strings.Repeat("[", 10)+s+many)
	}
	open, end := brackets(20, false)
	l = append(l, open, open+"1", open+end+"[", open+end+many, open+"1[", open+"\"a\"{", open+"null [", open+"x[", open+",[", open+"][", open+"]],"+"x"+many, open+"\"[", open+"\"]\"\"[")
	records := strings.Repeat(`{"a":`, 19) + "{"
	return append(l, records+"[", records+"{", records+`"a"[`, records+`"a"{`, records+`"a":1[`, records+`"a":1,[`, records+`"a":1,{`, records+`"a":1,"a":[`, "]"+many, "1"+many, "\"a\" "+many)
}

func TestTooDeepAndWrong(t *testing.T) {
	for _, s := range deepTexts() {
		isNoValue(t, s, api.ErrDeep)
	}
	for _, s := range openAndWrong() {
		isNoValue(t, s, api.ErrValue)
	}
}

// TestBlanks puts each blank, and several, at each place where they may stand.
func TestBlanks(t *testing.T) {
	words := []string{"{", `"a"`, ":", "[", "1", ",", "null", ",", "[", "]", ",", "{", "}", "]", ",", `"b"`, ":", `" "`, "}"}
	want := record(pair("a", list(number(1), null(), list(), record())), pair("b", text(" ")))
	for _, b := range []string{"", " ", "\t", "\n", "\r", "\r\n", " \t\n\r \t\n\r"} {
		isRead(t, b+strings.Join(words, b)+b, want)
		for i := range len(words) + 1 {
			isRead(t, strings.Join(words[:i], "")+b+strings.Join(words[i:], ""), want)
		}
	}
	for _, b := range []string{"\v", "\f", "\x00", "\x1f", "\x7f", "\u00a0", "\u0085", "\u2003", "\u2028", "\ufeff"} {
		for i := range len(words) + 1 {
			isNoValue(t, strings.Join(words[:i], "")+b+strings.Join(words[i:], ""), api.ErrValue)
		}
	}
}

// TestWaysOfWriting reads texts that are written otherwise than they would be.
func TestWaysOfWriting(t *testing.T) {
	for s, want := range map[string]string{
		`"\"\\\/\b\f\n\r\t"`:                     "\"\\/\b\f\n\r\t",
		`"/"`:                                    "/",
		`"\u0022\u005c\u002f"`:                   "\"\\/",
		`"\u0000\u001f\u0020\u007f"`:             "\x00\x1f \x7f",
		`"\u0061\u0080\u07ff\u0800"`:             "a\u0080\u07ff\u0800",
		`"\uabcd\uABCD\uaBcD"`:                   "\uabcd\uabcd\uabcd",
		`"\uef01\uEF01\ufffd\uFFFF"`:             "\uef01\uef01\ufffd\uffff",
		`"\ud7ff\ue000"`:                         "\ud7ff\ue000",
		`"\ud800\udc00"`:                         "\U00010000",
		`"\ud800\udfff"`:                         "\U000103ff",
		`"\ud801\udc00"`:                         "\U00010400",
		`"\udbff\udc00"`:                         "\U0010fc00",
		`"\udbff\udfff"`:                         "\U0010ffff",
		`"\uDBFF\uDFFF"`:                         "\U0010ffff",
		`"\ud83d\ude00"`:                         "\U0001f600",
		`"\uD83d\udE00\ud83d\ude01"`:             "\U0001f600\U0001f601",
		"\"\U0001f600\\ud83d\\ude00\"":           "\U0001f600\U0001f600",
		`"\\ud800"`:                              `\ud800`,
		`"\\u0041"`:                              `\u0041`,
		`"\\\u0041"`:                             `\A`,
		`"\u00411"`:                              "A1",
		`"\u005cn"`:                              `\n`,
		"\"\x7f\u0080\u2028\u2029\ufeff\"":       "\x7f\u0080\u2028\u2029\ufeff",
		"\" a\u05d0\U0001f600[]{},:\"":           " a\u05d0\U0001f600[]{},:",
		`"` + strings.Repeat(`\n`, 5000) + `"`:   strings.Repeat("\n", 5000),
		`"` + strings.Repeat("\u05d0", 99) + `"`: strings.Repeat("\u05d0", 99),
	} {
		isRead(t, s, text(want))
		isRead(t, "{"+s+":"+s+"}", record(pair(want, text(want))))
	}
	isRead(t, `{"a":1,"A":2,"\u0000":3,"":4,"a ":5}`, record(pair("a", number(1)), pair("A", number(2)), pair("\x00", number(3)), pair("", number(4)), pair("a ", number(5))))
	isRead(t, `{"a":{"a":1},"b":{"a":1}}`, record(pair("a", record(pair("a", number(1)))), pair("b", record(pair("a", number(1))))))
}

// TestEachUnit reads each number of sixteen bits, written with small letters, and with large ones.
func TestEachUnit(t *testing.T) {
	for n := range 1 << 16 {
		hex := strconv.FormatInt(int64(n)|1<<16, 16)[1:]
		for _, s := range []string{`"\u` + hex + `"`, `"\u` + strings.ToUpper(hex) + `"`} {
			v, e := value.Read(s)
			if n >= 0xd800 && n < 0xe000 {
				if e != api.ErrValue || v.Text != "" {
					t.Fatalf("Read(%s): %v, %v", s, v, e)
				}
			} else if e != api.OK || v.Text != string(rune(n)) {
				t.Fatalf("Read(%s): %v, %v", s, v, e)
			}
		}
	}
}

// TestEachByte writes, and reads, each scalar of one byte, and of some more.
func TestEachByte(t *testing.T) {
	for n := range 0x180 {
		want := `"` + string(rune(n)) + `"`
		switch {
		case n < 32:
			want = `"\u00` + strconv.FormatInt(int64(n)|1<<8, 16)[1:] + `"`
		case n == '"' || n == '\\':
			want = `"\` + string(rune(n)) + `"`
		}
		goesBothWays(t, text(string(rune(n))), want)
	}
}

// otherRead is Read by the library's reader, for texts that are not too deep, in which U+FFFD isn't written: that stands there for half a pair.
func otherRead(s string) (value.Value, bool) {
	if !json.Valid([]byte(s)) {
		return value.Value{}, false
	}
	d := json.NewDecoder(strings.NewReader(s))
	d.UseNumber()
	return otherValue(d)
}

// otherValue reads one from the words that the library's reader tells.
func otherValue(d *json.Decoder) (value.Value, bool) {
	word, err := d.Token()
	if err != nil {
		return value.Value{}, false
	}
	switch x := word.(type) {
	case bool:
		return truth(x), true
	case json.Number:
		n, err := strconv.Atoi(string(x))
		return number(n), err == nil && string(x) != "-0" && n >= -1<<53 && n <= 1<<53
	case string:
		return text(x), !strings.ContainsRune(x, utf8.RuneError)
	case json.Delim:
		return otherParts(d, x)
	}
	return null(), true
}

func otherParts(d *json.Decoder, open json.Delim) (value.Value, bool) {
	v := value.Value{Sort: api.List}
	if open == '{' {
		v.Sort = api.Record
	}
	for d.More() {
		if open == '{' {
			key, ok := otherValue(d)
			for _, k := range v.Keys {
				ok = ok && k != key.Text
			}
			if !ok {
				return v, false
			}
			v.Keys = append(v.Keys, key.Text)
		}
		part, ok := otherValue(d)
		if !ok {
			return v, false
		}
		v.List = append(v.List, part)
	}
	_, err := d.Token()
	return v, err == nil
}

// holdAll holds Read against the library's reader, for each text of so many words at most.
func holdAll(t *testing.T, words []string, most int, around func(string) string) {
	t.Helper()
	l := []string{""}
	for range most {
		var longer []string
		for _, s := range l {
			for _, w := range words {
				longer = append(longer, s+w)
			}
		}
		for _, s := range longer {
			s = around(s)
			want, ok := otherRead(s)
			v, e := value.Read(s)
			if ok && (e != api.OK || !one(v, want)) || !ok && (e != api.ErrValue || !one(v, null())) {
				t.Fatalf("Read(%q): %v, %v; otherwise %v, %v", s, v, e, want, ok)
			}
			if !ok {
				continue
			}
			written, e := value.Write(v)
			again, ok := otherRead(written)
			if e != api.OK || !ok || !one(again, v) {
				t.Fatalf("Write of %q: %q, %v", s, written, e)
			}
		}
		l = longer
	}
}

func TestShortTexts(t *testing.T) {
	holdAll(t, []string{"[", "]", "{", "}", ",", ":", `"a"`, "1", " "}, 6, func(s string) string { return s })
	holdAll(t, []string{"]", ",", `"b":`, `"a":`, "1", "\n", "null", "{", "}"}, 5, func(s string) string { return `{"a":[` + s + "}" })
}

func TestShortNumbers(t *testing.T) {
	holdAll(t, []string{"0", "1", "9", "-", "+", ".", "e", " ", "_", "x"}, 5, func(s string) string { return s })
	holdAll(t, []string{"0", "1", "2", "3", "9", "-", "."}, 2, func(s string) string { return "900719925474099" + s })
	holdAll(t, []string{"0", "1", "2", "3", "9", "-", "."}, 2, func(s string) string { return "-900719925474099" + s })
}

func TestShortInnersOfTexts(t *testing.T) {
	quoted := func(s string) string { return `"` + s + `"` }
	holdAll(t, []string{`\`, `"`, "u", "n", "/", "\n", "0", "a", "\u05d0"}, 6, quoted)
	holdAll(t, []string{`\u`, `\`, "d83d", "DE00", "0041", "dbfF", "dc00", "a", "\U0001f600"}, 5, quoted)
}

// counter counts on by a rule that looks like chance, so that each run does the same.
type counter uint32

func (c *counter) below(n int) int {
	*c = *c*1664525 + 1013904223
	return int(uint32(*c)>>8) % n
}

// anyText is some text; its scalars are of all lengths, and of those that are written otherwise.
func (c *counter) anyText() string {
	scalars := []rune{0, 9, 10, 31, 32, '"', '\\', '/', 'a', 'u', 127, 128, 0x5d0, 0x7ff, 0x800, 0xd7ff, 0xe000, 0xfffd, 0xffff, 0x10000, 0x1f600, 0x10ffff}
	s := ""
	for range c.below(6) {
		s += string(scalars[c.below(len(scalars))])
	}
	return s
}

// anyValue is some right value, nested no deeper than so.
func (c *counter) anyValue(deep int) value.Value {
	sorts := 6
	if deep == 0 {
		sorts = 4
	}
	v := value.Value{Sort: api.Sort(c.below(sorts))}
	switch v.Sort {
	case api.Bool:
		v.On = c.below(2) == 0
	case api.Number:
		v.N = []int{0, 1, -1, 10, -10, c.below(1000), 1 << 53, -1 << 53, 1<<53 - 1, c.below(1<<20) << 30}[c.below(10)]
	case api.Text:
		v.Text = c.anyText()
	case api.List:
		for range c.below(4) {
			v.List = append(v.List, c.anyValue(deep-1))
		}
	case api.Record:
		for i := range c.below(4) {
			v.Keys = append(v.Keys, strconv.Itoa(i)+c.anyText())
			v.List = append(v.List, c.anyValue(deep-1))
		}
	}
	return v
}

// spelt is a text of a value, written in some of the ways in which it may be.
func (c *counter) spelt(v value.Value) string {
	s := ""
	switch v.Sort {
	case api.Null:
		s = "null"
	case api.Bool:
		s = strconv.FormatBool(v.On)
	case api.Number:
		s = strconv.Itoa(v.N)
	case api.Text:
		s = c.speltText(v.Text)
	case api.List:
		s = "[" + c.speltParts(v, func(int) string { return "" }) + "]"
	case api.Record:
		s = "{" + c.speltParts(v, func(i int) string { return c.blanks() + c.speltText(v.Keys[i]) + c.blanks() + ":" }) + "}"
	}
	return c.blanks() + s + c.blanks()
}

func (c *counter) speltParts(v value.Value, ahead func(int) string) string {
	s := c.blanks()
	for i, part := range v.List {
		if i > 0 {
			s += ","
		}
		s += ahead(i) + c.spelt(part)
	}
	return s
}

func (c *counter) blanks() string {
	return []string{"", "", "", "", " ", "\n", "\t", "\r\n  "}[c.below(8)]
}

func (c *counter) speltText(text string) string {
	short := map[rune]string{'"': `\"`, '\\': `\\`, '/': `\/`, 8: `\b`, 12: `\f`, 10: `\n`, 13: `\r`, 9: `\t`}
	s := ""
	for _, r := range text {
		must := r < 32 || r == '"' || r == '\\'
		switch way := c.below(3); {
		case way == 0 && short[r] != "":
			s += short[r]
		case way == 1 || must:
			s += c.speltScalar(r)
		default:
			s += string(r)
		}
	}
	return `"` + s + `"`
}

func (c *counter) speltScalar(r rune) string {
	if r >= 0x10000 {
		r -= 0x10000
		return c.speltUnit(0xd800+r>>10) + c.speltUnit(0xdc00+r&0x3ff)
	}
	return c.speltUnit(r)
}

func (c *counter) speltUnit(r rune) string {
	hex := []byte(strconv.FormatInt(int64(r)|1<<16, 16)[1:])
	for i, b := range hex {
		if b >= 'a' && c.below(2) == 0 {
			hex[i] = b - 'a' + 'A'
		}
	}
	return `\u` + string(hex)
}

// TestThereAndBack writes and reads many values, and reads them from texts that are otherwise written.
func TestThereAndBack(t *testing.T) {
	c := counter(1)
	for range 20000 {
		v := c.anyValue(c.below(6))
		s, e := value.Write(v)
		if e != api.OK {
			t.Fatalf("Write(%v): %v", v, e)
		}
		goesBothWays(t, v, s)
		isRead(t, c.spelt(v), v)
	}
}

// TestCutAndChanged cuts texts off, and puts other bytes into them: what is read then is read as by the library's reader.
func TestCutAndChanged(t *testing.T) {
	const bytes = "[]{},:\"\\u019-x \nda/"
	c := counter(2)
	for range 20000 {
		s := c.spelt(c.anyValue(3))
		at := c.below(len(s) + 1)
		switch c.below(3) {
		case 0:
			s = s[:at]
		case 1:
			s = s[:at] + string(bytes[c.below(len(bytes))]) + s[at:]
		default:
			s = s[:at] + s[min(at+1, len(s)):]
		}
		if !utf8.ValidString(s) {
			isNoValue(t, s, api.ErrUtf)
			continue
		}
		if strings.Contains(strings.ToLower(s), "fffd") || strings.ContainsRune(s, utf8.RuneError) {
			continue
		}
		if want, ok := otherRead(s); ok {
			isRead(t, s, want)
		} else {
			isNoValue(t, s, api.ErrValue)
		}
	}
}

// TestManyKeys reads a record of as many keys as a message may have.
func TestManyKeys(t *testing.T) {
	var want value.Value
	want.Sort = api.Record
	for i := range 10000 {
		want.Keys = append(want.Keys, strconv.Itoa(i))
		want.List = append(want.List, number(i))
	}
	s, e := value.Write(want)
	if e != api.OK {
		t.Fatal(e)
	}
	goesBothWays(t, want, s)
	isNoValue(t, s[:len(s)-1]+`,"7":0}`, api.ErrValue)
	want.Keys[9999] = "7"
	goesWrong(t, "the last of many keys comes twice", want)
}
