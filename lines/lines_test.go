package lines_test

import (
	"math"
	"slices"
	"strings"
	"sync"
	"testing"

	"bolthole/api"
	"bolthole/lines"
)

// rightTexts have no byte 10, one at the beginning, at the end, and several in a row; scalars of one to four bytes, of one unit and of two, and the ends of their ranges.
var rightTexts = []string{
	"", "a", "abc", "\u05d0", "\u6587", "\U0001f600", "a\u05d0\u6587\U0001f600z",
	"\n", "\nabc", "abc\n", "\nabc\n", "ab\ncd", "ab\ncd\n", "\n\n", "\n\n\n\n", "ab\n\n\ncd", "\n\nab\n\n",
	"\u05d0\n\u6587\n\U0001f600\n", "\n\U0001f600", "\U0001f600\n", "a\U0001f600b\n\U0001f600\U0001f601\n\nz\U0001f600",
	"ab\n\n\U0001f600c", "\u05d0\u05d1\n\u6587a\u6587\n",
	"\r\n", "a\r\nb\r\n", "a\rb", "\n\r", "\v\f\u0085\u2028\u2029", "a\u0085b\u2028c\nd", "\x00\n\x00",
	"\x7f\u0080\u07ff\u0800\ud7ff\ue000\ufffd\uffff\U00010000\U0010ffff\n\U0010ffff\U00010000\uffff\ufffd\ue000\ud7ff\u0800\u07ff\u0080\x7f",
	// Scalars with the number 10 in them, or in a byte's lower half.
	"\u010a\u0a0a\u0a00\U0001000a\U0010000a\nz", "\u004a\u008a\u00ca",
	"e\u0301\n\ufeff", "package main\n\nfunc f() {\n\treturn\n}\n",
	strings.Repeat("a\n", 60), strings.Repeat("\U0001f600\u05d0\u6587a", 20) + "\n" + strings.Repeat("\U0001f600", 30),
}

// wrongBytes are not right, whatever stands around them.
var wrongBytes = []string{
	"\x80", "\xbf", "\xc0\x80", "\xc0\x8a", "\xc1\xbf", "\xe0\x80\x8a", "\xe0\x9f\xbf", "\xf0\x80\x80\x8a", "\xf0\x8f\xbf\xbf",
	"\xed\xa0\x80", "\xed\xbf\xbf", "\xed\xa0\xbd\xed\xb8\x80", "\xf4\x90\x80\x80", "\xf5\x80\x80\x80", "\xf8\x88\x80\x80\x80", "\xfe", "\xff",
	"\xc2", "\xe6", "\xe6\x96", "\xf0", "\xf0\x9f", "\xf0\x9f\x98",
	// A byte 10 within a scalar's bytes.
	"\xc2\n\x80", "\xd7\n\x90", "\xe6\n\x96\x87", "\xe6\x96\n\x87", "\xf0\n\x9f\x98\x80", "\xf0\x9f\n\x98\x80", "\xf0\x9f\x98\n\x80",
}

func wrongTexts() []string {
	var l []string
	for _, b := range wrongBytes {
		l = append(l, b, "ab"+b, b+"ab", "a\n"+b+"\nb", b+"\n", "\n"+b, "\U0001f600\n\n"+b, b+"\n\U0001f600", "\u05d0"+b+"\u05d0")
	}
	return l
}

// indexOf is one of a right text.
func indexOf(t *testing.T, s string) *lines.Index {
	t.Helper()
	x, e := lines.New(s)
	if x == nil || e != api.OK {
		t.Fatalf("New(%q): an index: %t, %v", s, x != nil, e)
	}
	return x
}

// holds asks an index everything about its text, and holds the answers against the model.
func holds(t *testing.T, x *lines.Index, s string) {
	t.Helper()
	m := modelOf(s)
	if n := x.Lines(); n != len(m.lines) {
		t.Errorf("Lines of %q: %d", s, n)
	}
	for _, n := range numbers(len(m.lines)) {
		line, e := x.Line(n)
		if want, wantE := m.line(n); line != want || e != wantE {
			t.Errorf("Line(%d) of %q: %q, %v", n, s, line, e)
		}
		for _, unit := range numbers(m.longestLine()) {
			p := api.Place{Line: n, Unit: unit}
			at, e := x.Offset(p)
			if want, wantE := m.offset(p); at != want || e != wantE {
				t.Errorf("Offset(%v) of %q: %d, %v", p, s, at, e)
			}
		}
	}
	for _, at := range numbers(len(s)) {
		p, e := x.Place(at)
		if want, wantE := m.place(at); p != want || e != wantE {
			t.Errorf("Place(%d) of %q: %v, %v", at, s, p, e)
		}
	}
}

func TestRightTexts(t *testing.T) {
	for _, s := range rightTexts {
		holds(t, indexOf(t, s), s)
	}
}

// TestAllShortTexts goes through all texts of up to five scalars, of each number of bytes and units, and bytes 10 and 13.
func TestAllShortTexts(t *testing.T) {
	l := []string{""}
	for range 6 {
		var longer []string
		for _, s := range l {
			holds(t, indexOf(t, s), s)
			for _, scalar := range []string{"\n", "\r", "a", "\u05d0", "\u6587", "\U0001f600"} {
				longer = append(longer, s+scalar)
			}
		}
		l = longer
		if t.Failed() {
			return
		}
	}
}

func TestNewOfWrongTexts(t *testing.T) {
	for _, s := range wrongTexts() {
		if x, e := lines.New(s); x != nil || e != api.ErrUtf {
			t.Errorf("New(%q): an index: %t, %v", s, x != nil, e)
		}
	}
}

func TestLines(t *testing.T) {
	tests := []struct {
		s    string
		want []string
	}{
		{"", []string{""}},
		{"abc", []string{"abc"}},
		{"\n", []string{"", ""}},
		{"\nabc", []string{"", "abc"}},
		{"abc\n", []string{"abc", ""}},
		{"ab\ncd", []string{"ab", "cd"}},
		{"ab\n\n\ncd", []string{"ab", "", "", "cd"}},
		{"\n\n\n", []string{"", "", "", ""}},
		{"a\r\nb\rc\n", []string{"a\r", "b\rc", ""}},
		{"a\v\f\u0085\u2028\u2029b", []string{"a\v\f\u0085\u2028\u2029b"}},
		{"\u05d0\n\u6587\n\U0001f600", []string{"\u05d0", "\u6587", "\U0001f600"}},
	}
	for _, y := range tests {
		x := indexOf(t, y.s)
		if x.Lines() != len(y.want) {
			t.Errorf("Lines of %q: %d", y.s, x.Lines())
		}
		for n, want := range y.want {
			if line, e := x.Line(n); line != want || e != api.OK {
				t.Errorf("Line(%d) of %q: %q, %v", n, y.s, line, e)
			}
		}
		for _, n := range []int{math.MinInt, -1, len(y.want), len(y.want) + 1, math.MaxInt} {
			if line, e := x.Line(n); line != "" || e != api.ErrPlace {
				t.Errorf("Line(%d) of %q: %q, %v", n, y.s, line, e)
			}
		}
	}
}

// mixed has a scalar of each number of bytes on its first line, and ends behind a byte 10.
const mixed = "a\u05d0\u6587\U0001f600z\n\n\U0001f600\n"

func TestOffset(t *testing.T) {
	tests := []struct {
		s  string
		p  api.Place
		at int
		e  api.Errno
	}{
		{"", api.Place{Line: 0, Unit: 0}, 0, api.OK},
		{"", api.Place{Line: 0, Unit: 1}, 0, api.ErrPlace},
		{"", api.Place{Line: 1, Unit: 0}, 0, api.ErrPlace},
		{mixed, api.Place{Line: 0, Unit: 0}, 0, api.OK},
		{mixed, api.Place{Line: 0, Unit: 1}, 1, api.OK},
		{mixed, api.Place{Line: 0, Unit: 2}, 3, api.OK},
		{mixed, api.Place{Line: 0, Unit: 3}, 6, api.OK},
		{mixed, api.Place{Line: 0, Unit: 4}, 0, api.ErrPlace}, // in the midst of a scalar
		{mixed, api.Place{Line: 0, Unit: 5}, 10, api.OK},
		{mixed, api.Place{Line: 0, Unit: 6}, 11, api.OK}, // the line's end
		{mixed, api.Place{Line: 0, Unit: 7}, 0, api.ErrPlace},
		{mixed, api.Place{Line: 0, Unit: 11}, 0, api.ErrPlace}, // its bytes, not its units
		{mixed, api.Place{Line: 0, Unit: -1}, 0, api.ErrPlace},
		{mixed, api.Place{Line: 1, Unit: -1}, 0, api.ErrPlace},
		{mixed, api.Place{Line: 1, Unit: 0}, 12, api.OK},
		{mixed, api.Place{Line: 1, Unit: 1}, 0, api.ErrPlace},
		{mixed, api.Place{Line: 2, Unit: -1}, 0, api.ErrPlace},
		{mixed, api.Place{Line: 2, Unit: 0}, 13, api.OK},
		{mixed, api.Place{Line: 2, Unit: 1}, 0, api.ErrPlace},
		{mixed, api.Place{Line: 2, Unit: 2}, 17, api.OK},
		{mixed, api.Place{Line: 2, Unit: 3}, 0, api.ErrPlace},
		{mixed, api.Place{Line: 3, Unit: 0}, 18, api.OK},
		{mixed, api.Place{Line: 3, Unit: 1}, 0, api.ErrPlace},
		{mixed, api.Place{Line: 4, Unit: 0}, 0, api.ErrPlace},
		{mixed, api.Place{Line: -1, Unit: 0}, 0, api.ErrPlace},
		{mixed, api.Place{Line: math.MaxInt, Unit: math.MaxInt}, 0, api.ErrPlace},
		{mixed, api.Place{Line: math.MinInt, Unit: math.MinInt}, 0, api.ErrPlace},
	}
	for _, y := range tests {
		if at, e := indexOf(t, y.s).Offset(y.p); at != y.at || e != y.e {
			t.Errorf("Offset(%v) of %q: %d, %v", y.p, y.s, at, e)
		}
	}
}

func TestPlace(t *testing.T) {
	tests := []struct {
		s  string
		at int
		p  api.Place
		e  api.Errno
	}{
		{"", 0, api.Place{}, api.OK},
		{"", 1, api.Place{}, api.ErrPlace},
		{"", -1, api.Place{}, api.ErrPlace},
		{"\n", 0, api.Place{Line: 0, Unit: 0}, api.OK},
		{"\n", 1, api.Place{Line: 1, Unit: 0}, api.OK},
		{"\n", 2, api.Place{}, api.ErrPlace},
		{mixed, math.MinInt, api.Place{}, api.ErrPlace},
		{mixed, -1, api.Place{}, api.ErrPlace},
		{mixed, 0, api.Place{Line: 0, Unit: 0}, api.OK},
		{mixed, 1, api.Place{Line: 0, Unit: 1}, api.OK},
		{mixed, 2, api.Place{}, api.ErrPlace}, // in the midst of two bytes
		{mixed, 3, api.Place{Line: 0, Unit: 2}, api.OK},
		{mixed, 4, api.Place{}, api.ErrPlace}, // .. of three
		{mixed, 5, api.Place{}, api.ErrPlace},
		{mixed, 6, api.Place{Line: 0, Unit: 3}, api.OK},
		{mixed, 7, api.Place{}, api.ErrPlace}, // .. of four
		{mixed, 8, api.Place{}, api.ErrPlace},
		{mixed, 9, api.Place{}, api.ErrPlace},
		{mixed, 10, api.Place{Line: 0, Unit: 5}, api.OK},
		{mixed, 11, api.Place{Line: 0, Unit: 6}, api.OK}, // at a byte 10
		{mixed, 12, api.Place{Line: 1, Unit: 0}, api.OK}, // at one behind another one
		{mixed, 13, api.Place{Line: 2, Unit: 0}, api.OK},
		{mixed, 14, api.Place{}, api.ErrPlace},
		{mixed, 17, api.Place{Line: 2, Unit: 2}, api.OK},
		{mixed, 18, api.Place{Line: 3, Unit: 0}, api.OK}, // the text's end
		{mixed, 19, api.Place{}, api.ErrPlace},
		{mixed, math.MaxInt, api.Place{}, api.ErrPlace},
	}
	for _, y := range tests {
		if p, e := indexOf(t, y.s).Place(y.at); p != y.p || e != y.e {
			t.Errorf("Place(%d) of %q: %v, %v", y.at, y.s, p, e)
		}
	}
}

// behind tells whether a place stands behind another one.
func behind(p, q api.Place) bool {
	return p.Line > q.Line || p.Line == q.Line && p.Unit > q.Unit
}

// TestThereAndBack goes from each offset to its place and back, from each place to its offset and back, and looks whether places rise: P5.2.
func TestThereAndBack(t *testing.T) {
	for _, s := range rightTexts {
		x := indexOf(t, s)
		last := api.Place{Line: -1}
		for at := -1; at <= len(s)+1; at++ {
			p, e := x.Place(at)
			if e != api.OK {
				continue
			}
			if back, e := x.Offset(p); back != at || e != api.OK {
				t.Errorf("%q: from offset %d to place %v, back to %d, %v", s, at, p, back, e)
			}
			if !behind(p, last) {
				t.Errorf("%q: place %v of offset %d doesn't stand behind %v", s, p, at, last)
			}
			last = p
		}
		found := 0
		lastAt := -1
		for n := -1; n <= x.Lines(); n++ {
			for unit := -1; unit <= len(s)+1; unit++ {
				p := api.Place{Line: n, Unit: unit}
				at, e := x.Offset(p)
				if e != api.OK {
					continue
				}
				found++
				if back, e := x.Place(at); back != p || e != api.OK {
					t.Errorf("%q: from place %v to offset %d, back to %v, %v", s, p, at, back, e)
				}
				if at <= lastAt {
					t.Errorf("%q: offset %d of place %v isn't behind %d", s, at, p, lastAt)
				}
				lastAt = at
			}
		}
		if want := len([]rune(s)) + 1; found != want {
			t.Errorf("%q: %d places, not %d", s, found, want)
		}
	}
}

// TestLinesJoined: the lines, with a byte 10 between, are the text; each begins and ends at the offsets of its first and its last place.
func TestLinesJoined(t *testing.T) {
	for _, s := range rightTexts {
		x := indexOf(t, s)
		var l []string
		for n := range x.Lines() {
			line, e := x.Line(n)
			from, f := x.Offset(api.Place{Line: n})
			to, g := x.Place(from + len(line))
			if e != api.OK || f != api.OK || g != api.OK || s[from:from+len(line)] != line || to.Line != n {
				t.Errorf("line %d of %q: %q, %v, from %d, %v, to %v, %v", n, s, line, e, from, f, to, g)
			}
			l = append(l, line)
		}
		if strings.Join(l, "\n") != s {
			t.Errorf("%q: lines %q", s, l)
		}
	}
}

func TestNilIndex(t *testing.T) {
	var x *lines.Index
	if n := x.Lines(); n != 0 {
		t.Errorf("Lines: %d", n)
	}
	for _, n := range numbers(3) {
		if line, e := x.Line(n); line != "" || e != api.ErrArg {
			t.Errorf("Line(%d): %q, %v", n, line, e)
		}
		if p, e := x.Place(n); p != (api.Place{}) || e != api.ErrArg {
			t.Errorf("Place(%d): %v, %v", n, p, e)
		}
		for _, unit := range numbers(3) {
			p := api.Place{Line: n, Unit: unit}
			if at, e := x.Offset(p); at != 0 || e != api.ErrArg {
				t.Errorf("Offset(%v): %d, %v", p, at, e)
			}
		}
	}
}

// TestGreatTexts: no limit is asked for here; many lines, and one that is long.
func TestGreatTexts(t *testing.T) {
	const many = 4 * api.MaxText
	ends := indexOf(t, strings.Repeat("\n", many))
	x := indexOf(t, strings.Repeat("\U0001f600", many))
	if ends.Lines() != many+1 || x.Lines() != 1 {
		t.Errorf("Lines: %d, %d", ends.Lines(), x.Lines())
	}
	for at := range many + 1 {
		if p, e := ends.Place(at); p != (api.Place{Line: at}) || e != api.OK {
			t.Fatalf("Place(%d): %v, %v", at, p, e)
		}
		if got, e := ends.Offset(api.Place{Line: at}); got != at || e != api.OK {
			t.Fatalf("Offset(%d): %d, %v", at, got, e)
		}
	}
	for at := 0; at <= 4*many; at += 4 * many / 16 {
		want := api.Place{Unit: at / 2}
		p, e := x.Place(at)
		back, f := x.Offset(want)
		if p != want || e != api.OK || back != at || f != api.OK {
			t.Fatalf("%d: %v, %v, back %d, %v", at, p, e, back, f)
		}
	}
}

// TestIndexesApart makes many, and asks them in turn: none has anything of another one.
func TestIndexesApart(t *testing.T) {
	var all []*lines.Index
	for _, s := range rightTexts {
		all = append(all, indexOf(t, s))
		lines.New(s + "\xff")
	}
	for i, s := range slices.Backward(rightTexts) {
		holds(t, all[i], s)
		holds(t, indexOf(t, s), s)
	}
	for i, s := range rightTexts {
		holds(t, all[i], s)
	}
}

// TestTextStays makes texts of bytes that are written into afterwards.
func TestTextStays(t *testing.T) {
	for _, s := range rightTexts {
		b := []byte(s)
		x := indexOf(t, string(b))
		for i := range b {
			b[i] = '\n'
		}
		for n := range x.Lines() {
			line, _ := x.Line(n)
			told := []byte(line)
			for i := range told {
				told[i] = '\n'
			}
		}
		holds(t, x, s)
	}
}

// TestAnswersHangOnArguments asks one index side by side, whatever was asked ahead: P1 and P2.
func TestAnswersHangOnArguments(t *testing.T) {
	for _, s := range rightTexts {
		x := indexOf(t, s)
		var all sync.WaitGroup
		for range 4 {
			all.Go(func() { holds(t, x, s) })
		}
		all.Wait()
	}
}
