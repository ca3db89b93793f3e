package docs_test

import (
	"fmt"
	"math"
	"slices"
	"strings"
	"sync"
	"testing"

	"bolthole/api"
	"bolthole/docs"
)

// wrongBytes are not right, whatever stands around them.
var wrongBytes = []string{
	"\x80", "\xbf", "\xc0\x80", "\xe0\x80\x8a", "\xed\xa0\x80", "\xed\xa0\xbd\xed\xb8\x80", "\xf0\x8f\xbf\xbf", "\xf4\x90\x80\x80", "\xff",
	"\xc2", "\xe6\x96", "\xf0\x9f\x98", "\xd7\n\x90",
}

// doc is a document of a name.
func doc(name string, version int, text string) api.Doc {
	return api.Doc{Name: name, Version: version, Text: text}
}

// edit is one from a line and a unit to a line and a unit.
func edit(line, unit, toLine, toUnit int, text string) api.Edit {
	return api.Edit{From: api.Place{Line: line, Unit: unit}, To: api.Place{Line: toLine, Unit: toUnit}, Text: text}
}

// brief tells documents without all of their texts, which may be long.
func brief(l ...api.Doc) string {
	s := ""
	for _, d := range l {
		s += fmt.Sprintf("[%.45q %d %.30q]", d.Name, d.Version, d.Text)
	}
	return s
}

// storeOf has some documents, opened in their order.
func storeOf(t *testing.T, l ...api.Doc) *docs.Store {
	t.Helper()
	s := docs.New()
	for _, d := range l {
		if err := s.Open(d); err != api.OK {
			t.Fatalf("Open(%s): %v", brief(d), err)
		}
	}
	return s
}

// eight are as many documents as a store has.
func eight() []api.Doc {
	var l []api.Doc
	for i := range 8 {
		l = append(l, doc(string(rune('a'+i)), i, strings.Repeat("x", i)))
	}
	return l
}

// has holds all that a store tells against the documents, by name, that it should have.
func has(t *testing.T, s *docs.Store, want ...api.Doc) {
	t.Helper()
	if all := s.All(); !slices.Equal(all, want) {
		t.Errorf("All: %s, not %s", brief(all...), brief(want...))
	}
	size := 0
	for _, d := range want {
		size += len(d.Text)
		if got, ok := s.Get(d.Name); got != d || !ok {
			t.Errorf("Get(%q): %s, %v, not %s", d.Name, brief(got), ok, brief(d))
		}
	}
	if got := s.Size(); got != size {
		t.Errorf("Size: %d, not %d", got, size)
	}
}

// hasNot asks for documents that are none.
func hasNot(t *testing.T, s *docs.Store, names ...string) {
	t.Helper()
	for _, name := range names {
		if d, ok := s.Get(name); d != (api.Doc{}) || ok {
			t.Errorf("Get(%q): %s, %v", name, brief(d), ok)
		}
	}
}

// is holds an error against the one that is wanted.
func is(t *testing.T, what string, got, want api.Errno) {
	t.Helper()
	if got != want {
		t.Errorf("%.100q: %v, not %v", what, got, want)
	}
}

func TestNew(t *testing.T) {
	s := docs.New()
	if s == nil {
		t.Fatal("no store")
	}
	has(t, s)
	hasNot(t, s, "", "a")
}

// permute calls back with each order of a list.
func permute(l []api.Doc, at int, back func([]api.Doc)) {
	if at == len(l) {
		back(l)
	}
	for i := at; i < len(l); i++ {
		l[at], l[i] = l[i], l[at]
		permute(l, at+1, back)
		l[at], l[i] = l[i], l[at]
	}
}

// TestOpenInAnyOrder opens one document, two and more, and closes them again: all by name, rising, byte by byte.
func TestOpenInAnyOrder(t *testing.T) {
	for _, sorted := range [][]api.Doc{
		{doc("a", 0, "")},
		{doc("a", 2, "one"), doc("b", 1, "two")},
		// Names of which one is the beginning of another.
		{doc("a", 1, "1"), doc("a\x00", 2, "22"), doc("aa", 3, ""), doc("aaa", 4, "4444"), doc("ab", 5, "5"), doc("b", 6, "6")},
		// Figures, capitals, blanks: by bytes, not by the numbers or letters that they tell.
		{doc("\n", 1, ""), doc(" ", 2, ""), doc("10", 3, "a"), doc("9", 4, "b"), doc("B", 5, "c"), doc("a", 6, "d")},
		// Scalars of one to four bytes: FF61 stands ahead of 1F600, though its unit is greater than that one's first.
		{doc("z", 1, "a"), doc("\u007f", 2, "b"), doc("\u0080", 3, "cc"), doc("\u05d0", 4, "\u05d0"), doc("\u6587", 5, "\u6587"), doc("\uff61", 6, ""), doc("\U0001f600", 7, "\U0001f600")},
	} {
		permute(slices.Clone(sorted), 0, func(l []api.Doc) {
			s := storeOf(t, l...)
			has(t, s, sorted...)
			left := slices.Clone(sorted)
			for _, d := range l {
				is(t, "Close", s.Close(d.Name), api.OK)
				left = slices.DeleteFunc(left, func(x api.Doc) bool { return x == d })
				has(t, s, left...)
				hasNot(t, s, d.Name)
			}
		})
	}
}

// TestOpenKeepsAll has versions and texts of all kinds.
func TestOpenKeepsAll(t *testing.T) {
	for _, version := range []int{0, 1, -1, -5, 1 << 40, math.MaxInt, math.MinInt} {
		for _, text := range []string{"", "a", "\n", "a\r\nb\x00", "\U0001f600\u6587\u05d0", strings.Repeat("a", 16384)} {
			d := doc("n", version, text)
			has(t, storeOf(t, d), d)
		}
	}
}

// TestNames counts bytes, not scalars and not units.
func TestNames(t *testing.T) {
	may := []string{
		"a", "\x00", "\n", " ", "\"", "/", "file:///a/b.go", "\u05d0", "\u6587", "\U0001f600", "\ufeff", "\ufffd",
		strings.Repeat("a", 39), strings.Repeat("a", 40), strings.Repeat("\u05d0", 20), strings.Repeat("\u6587", 13) + "a", strings.Repeat("\U0001f600", 10),
	}
	for _, name := range may {
		s := docs.New()
		is(t, "Open "+name, s.Open(doc(name, 1, "x")), api.OK)
		has(t, s, doc(name, 1, "x"))
		is(t, "Change "+name, s.Change(name, 2, edit(0, 0, 0, 0, "y")), api.OK)
		has(t, s, doc(name, 2, "yx"))
		is(t, "Whole "+name, s.Whole(name, 3, "z"), api.OK)
		has(t, s, doc(name, 3, "z"))
		is(t, "Close "+name, s.Close(name), api.OK)
		has(t, s)
	}
	mayNot := []string{
		"", strings.Repeat("a", 41), strings.Repeat("\u05d0", 20) + "a", strings.Repeat("\u05d0", 21), strings.Repeat("\u6587", 14), strings.Repeat("\U0001f600", 10) + "a", strings.Repeat("\U0001f600", 11),
		strings.Repeat("a", 1000), strings.Repeat("\xff", 41), strings.Repeat("a", 39) + "\u05d0",
	}
	for _, w := range wrongBytes {
		mayNot = append(mayNot, w, "a"+w, w+"a")
	}
	for _, name := range mayNot {
		old := doc("a", 1, "x")
		s := storeOf(t, old)
		is(t, "Open "+name, s.Open(doc(name, 1, "x")), api.ErrArg)
		is(t, "Change "+name, s.Change(name, 2), api.ErrNone)
		is(t, "Whole "+name, s.Whole(name, 2, ""), api.ErrNone)
		is(t, "Close "+name, s.Close(name), api.ErrNone)
		hasNot(t, s, name)
		has(t, s, old)
	}
}

// TestOpenFirstError has each error alone, and such as hold at once.
func TestOpenFirstError(t *testing.T) {
	wrongNames := []string{"", strings.Repeat("a", 41), "\xff"}
	long := strings.Repeat("a", 16385)
	one := []api.Doc{doc("a", 1, "x")}
	for _, name := range wrongNames {
		for _, text := range []string{"", "\xff", long, long + "\xff"} {
			for _, there := range [][]api.Doc{nil, one, eight()} {
				s := storeOf(t, there...)
				is(t, "a name that may not be", s.Open(doc(name, 9, text)), api.ErrArg)
				has(t, s, there...)
			}
		}
	}
	tests := []struct {
		what  string
		there []api.Doc
		d     api.Doc
		want  api.Errno
	}{
		{"a text that is not right", nil, doc("a", 9, "\xff"), api.ErrUtf},
		{".. and is too long", nil, doc("a", 9, long+"\xff"), api.ErrUtf},
		{".. and is too long at the end of its scalar alone", nil, doc("a", 9, long[1:]+"\xd7"), api.ErrUtf},
		{".. of a store that is full", eight(), doc("z", 9, "\xff"), api.ErrUtf},
		{".. of a name that is there", one, doc("a", 9, "\xff"), api.ErrUtf},
		{".. all of it", eight(), doc("a", 9, long+"\xff"), api.ErrUtf},
		{"a text that is too long", nil, doc("a", 9, long), api.ErrFull},
		{".. of a store that is full", eight(), doc("z", 9, long), api.ErrFull},
		{".. of a name that is there", one, doc("a", 9, long), api.ErrFull},
		{"a store that is full", eight(), doc("z", 9, "y"), api.ErrFull},
		{".. of a name that is there", eight(), doc("a", 9, "y"), api.ErrFull},
		{".. all of it", eight(), doc("h", 7, "xxxxxxx"), api.ErrFull},
		{"a name that is there", one, doc("a", 9, "y"), api.ErrTwice},
		{".. the same document", one, one[0], api.ErrTwice},
		{".. of seven", eight()[1:], doc("d", 9, ""), api.ErrTwice},
		{"none of these", eight()[1:], doc("a", 0, ""), api.OK},
	}
	for _, x := range tests {
		s := storeOf(t, x.there...)
		is(t, x.what, s.Open(x.d), x.want)
		if x.want != api.OK {
			has(t, s, x.there...)
		}
	}
	for _, w := range wrongBytes {
		for _, text := range []string{w, "ab" + w, w + "ab", "\U0001f600\n" + w} {
			s := docs.New()
			is(t, "Open of a wrong text", s.Open(doc("a", 1, text)), api.ErrUtf)
			has(t, s)
		}
	}
}

// TestMaxText counts bytes: 2^14 of one document, whatever the others have.
func TestMaxText(t *testing.T) {
	texts := []string{strings.Repeat("a", 16384), strings.Repeat("\n", 16384), strings.Repeat("\u05d0", 8192), strings.Repeat("\u6587", 5461) + "a", strings.Repeat("\U0001f600", 4096)}
	for _, text := range texts {
		s := docs.New()
		is(t, "Open, a byte too many", s.Open(doc("a", 1, text+"a")), api.ErrFull)
		has(t, s)
		is(t, "Open", s.Open(doc("a", 1, text)), api.OK)
		has(t, s, doc("a", 1, text))
		is(t, "Change, a byte too many", s.Change("a", 2, edit(0, 0, 0, 0, "a")), api.ErrFull)
		is(t, "Whole, a byte too many", s.Whole("a", 2, text+"a"), api.ErrFull)
		is(t, "Whole, a scalar too many", s.Whole("a", 2, text+"\U0001f600"), api.ErrFull)
		has(t, s, doc("a", 1, text))
		is(t, "Change by no edit", s.Change("a", 2), api.OK)
		has(t, s, doc("a", 2, text))
		is(t, "Whole, short", s.Whole("a", 3, "x"), api.OK)
		is(t, "Change, as long as may be", s.Change("a", 4, edit(0, 0, 0, 1, text)), api.OK)
		has(t, s, doc("a", 4, text))
		is(t, "Whole, as long as may be", s.Whole("a", 5, text), api.OK)
		has(t, s, doc("a", 5, text))
	}
	var all []api.Doc
	for i := range 8 {
		all = append(all, doc(string(rune('a'+i)), i, texts[i%len(texts)]))
	}
	s := storeOf(t, all...)
	has(t, s, all...)
	if s.Size() != 8*16384 {
		t.Errorf("Size: %d", s.Size())
	}
}

// TestNinth opens one more than may be, also of a name that is there, and once more behind a Close.
func TestNinth(t *testing.T) {
	l := eight()
	for i := range l {
		s := storeOf(t, l[:i]...)
		is(t, "Open", s.Open(l[i]), api.OK)
		has(t, s, l[:i+1]...)
	}
	s := storeOf(t, l...)
	for range 2 {
		for _, d := range append(l, doc("0", 0, ""), doc("z", 0, "z")) {
			is(t, "Open of a ninth", s.Open(d), api.ErrFull)
			has(t, s, l...)
		}
	}
	is(t, "Close", s.Close("d"), api.OK)
	is(t, "Open of one that is there", s.Open(l[0]), api.ErrTwice)
	is(t, "Open of an eighth", s.Open(doc("z", 1, "z")), api.OK)
	is(t, "Open of a ninth", s.Open(l[3]), api.ErrFull)
	has(t, s, append(slices.Delete(slices.Clone(l), 3, 4), doc("z", 1, "z"))...)
	// A full store still changes, and closes.
	is(t, "Change", s.Change("z", 2, edit(0, 0, 0, 0, "y")), api.OK)
	is(t, "Whole", s.Whole("a", 1, "whole"), api.OK)
	is(t, "Close", s.Close("h"), api.OK)
	has(t, s, doc("a", 1, "whole"), l[1], l[2], l[4], l[5], l[6], doc("z", 2, "yz"))
}

func TestChange(t *testing.T) {
	tests := []struct {
		text string
		l    []api.Edit
		want string
		err  api.Errno
	}{
		{"", nil, "", api.OK},
		{"ab\ncd", nil, "ab\ncd", api.OK},
		{"ab\ncd", []api.Edit{}, "ab\ncd", api.OK},
		{"ab\ncd", []api.Edit{edit(0, 1, 0, 1, "")}, "ab\ncd", api.OK},
		{"ab\ncd", []api.Edit{edit(0, 1, 1, 1, "X")}, "aXd", api.OK},
		{"ab\ncd", []api.Edit{edit(0, 0, 1, 2, "")}, "", api.OK},
		{"\U0001f600z", []api.Edit{edit(0, 2, 0, 3, "\u05d0")}, "\U0001f600\u05d0", api.OK},
		// Several: each is of what the one ahead made, and they are done in order.
		{"", []api.Edit{edit(0, 0, 0, 0, "a"), edit(0, 1, 0, 1, "b"), edit(0, 2, 0, 2, "c")}, "abc", api.OK},
		{"hey", []api.Edit{edit(0, 0, 0, 0, "X"), edit(0, 0, 0, 0, "Y")}, "YXhey", api.OK},
		{"a\nb", []api.Edit{edit(0, 1, 1, 0, ""), edit(0, 2, 0, 2, "X")}, "abX", api.OK},
		{"ab", []api.Edit{edit(0, 0, 0, 2, strings.Repeat("x", 16384)), edit(0, 1, 0, 16384, "")}, "x", api.OK},
		// Wrong.
		{"ab", []api.Edit{edit(0, 0, 0, 0, "\xff")}, "", api.ErrUtf},
		{"ab", []api.Edit{edit(9, 9, 9, 9, "\xff")}, "", api.ErrUtf},
		{"ab", []api.Edit{edit(0, 3, 0, 3, "")}, "", api.ErrPlace},
		{"ab", []api.Edit{edit(0, 0, 1, 0, "")}, "", api.ErrPlace},
		{"ab", []api.Edit{edit(0, -1, 0, 0, "")}, "", api.ErrPlace},
		{"\U0001f600", []api.Edit{edit(0, 1, 0, 2, "")}, "", api.ErrPlace},
		{"ab", []api.Edit{edit(0, 1, 0, 0, "")}, "", api.ErrEdit},
		{"ab", []api.Edit{edit(0, 0, 0, 0, strings.Repeat("x", 16383))}, "", api.ErrFull},
		// A first one that may be, a second one that is wrong; and behind that one that may be again.
		{"ab", []api.Edit{edit(0, 0, 0, 0, "X"), edit(0, 0, 0, 0, "\xff")}, "", api.ErrUtf},
		{"ab", []api.Edit{edit(0, 0, 0, 0, "X"), edit(0, 4, 0, 4, "")}, "", api.ErrPlace},
		{"ab", []api.Edit{edit(0, 0, 0, 0, "X"), edit(0, 3, 0, 2, "")}, "", api.ErrEdit},
		{"ab", []api.Edit{edit(0, 0, 0, 2, strings.Repeat("x", 16384)), edit(0, 0, 0, 0, "y")}, "", api.ErrFull},
		{"ab", []api.Edit{edit(0, 0, 0, 1, ""), edit(0, 2, 0, 2, ""), edit(0, 0, 0, 0, "X")}, "", api.ErrPlace},
		{"ab", []api.Edit{edit(0, 2, 0, 3, ""), edit(0, 0, 0, 0, "\xff")}, "", api.ErrPlace},
	}
	for i, x := range tests {
		for _, version := range []int{8, 9, math.MaxInt} {
			first, old, last := doc("a", 3, "\n\n"), doc("n", 7, x.text), doc("na", 9, "")
			s := storeOf(t, last, old, first)
			is(t, fmt.Sprintf("%d: Change", i), s.Change("n", version, x.l...), x.err)
			if x.err == api.OK {
				old = doc("n", version, x.want)
			}
			has(t, s, first, old, last)
		}
	}
}

func TestWhole(t *testing.T) {
	tests := []struct {
		old, text string
		err       api.Errno
	}{
		{"", "", api.OK},
		{"ab", "", api.OK},
		{"ab", "ab", api.OK},
		{"ab", "cde\n\U0001f600", api.OK},
		{"ab", strings.Repeat("a", 16384), api.OK},
		{"ab", strings.Repeat("a", 16385), api.ErrFull},
		{"ab", strings.Repeat("a", 16385) + "\xff", api.ErrUtf},
		{"ab", "\xff", api.ErrUtf},
		{"ab", "ab\xd7", api.ErrUtf},
	}
	for i, x := range tests {
		for _, version := range []int{8, 9, math.MaxInt} {
			first, old, last := doc("a", 3, "\n\n"), doc("n", 7, x.old), doc("na", 9, "")
			s := storeOf(t, last, old, first)
			is(t, fmt.Sprintf("%d: Whole", i), s.Whole("n", version, x.text), x.err)
			if x.err == api.OK {
				old = doc("n", version, x.text)
			}
			has(t, s, first, old, last)
		}
	}
	for _, w := range wrongBytes {
		s := storeOf(t, doc("n", 7, "ab"))
		for _, text := range []string{w, "ab" + w, w + "ab", "\U0001f600\n" + w} {
			is(t, "Whole of a wrong text", s.Whole("n", 8, text), api.ErrUtf)
		}
		has(t, s, doc("n", 7, "ab"))
	}
}

// TestVersions has those that are less, the same and greater, also below 0, and at the ends of what a number may be.
func TestVersions(t *testing.T) {
	versions := []int{math.MinInt, math.MinInt + 1, -1 << 40, -6, -5, -1, 0, 1, 5, 6, 1 << 40, math.MaxInt - 1, math.MaxInt}
	for i, old := range versions {
		for j, version := range versions {
			want := api.ErrVersion
			changed, made := doc("n", old, "x"), doc("n", old, "x")
			if j > i {
				want = api.OK
				changed, made = doc("n", version, "xy"), doc("n", version, "z")
			}
			s := storeOf(t, doc("n", old, "x"))
			is(t, fmt.Sprintf("Change from %d to %d", old, version), s.Change("n", version, edit(0, 1, 0, 1, "y")), want)
			has(t, s, changed)
			s = storeOf(t, doc("n", old, "x"))
			is(t, fmt.Sprintf("Whole from %d to %d", old, version), s.Whole("n", version, "z"), want)
			has(t, s, made)
		}
	}
	// A version is each document's own.
	s := storeOf(t, doc("a", 9, ""), doc("b", 2, ""))
	is(t, "Whole", s.Whole("b", 3, "x"), api.OK)
	is(t, "Whole", s.Whole("a", 9, "x"), api.ErrVersion)
	is(t, "Change", s.Change("b", 4), api.OK)
	has(t, s, doc("a", 9, ""), doc("b", 4, "x"))
	// One that was refused with an error is still to come.
	is(t, "Change", s.Change("b", 5, edit(1, 0, 0, 0, "")), api.ErrPlace)
	is(t, "Whole", s.Whole("b", 5, "\xff"), api.ErrUtf)
	is(t, "Change", s.Change("b", 5, edit(0, 1, 0, 1, "y")), api.OK)
	has(t, s, doc("a", 9, ""), doc("b", 5, "xy"))
}

// TestChangeFirstError has two errors at once: that there is none ahead of the version, that ahead of what is wrong with edits and texts.
func TestChangeFirstError(t *testing.T) {
	long := strings.Repeat("a", 16385)
	wrongEdits := []struct {
		e    api.Edit
		want api.Errno
	}{
		{edit(0, 0, 0, 0, "\xff"), api.ErrUtf}, {edit(5, 5, 5, 5, ""), api.ErrPlace}, {edit(0, 1, 0, 0, ""), api.ErrEdit}, {edit(0, 0, 0, 0, long), api.ErrFull},
	}
	wrongTexts := []struct {
		text string
		want api.Errno
	}{
		{"\xff", api.ErrUtf}, {long, api.ErrFull}, {long + "\xff", api.ErrUtf},
	}
	old := doc("a", 7, "x")
	s := storeOf(t, old)
	for _, name := range []string{"b", "aa", "", "A", "\xff", long} {
		for _, version := range []int{math.MinInt, 0, 7, 8, math.MaxInt} {
			is(t, "Change of none", s.Change(name, version), api.ErrNone)
			is(t, "Whole of none", s.Whole(name, version, ""), api.ErrNone)
			for _, x := range wrongEdits {
				is(t, "Change of none", s.Change(name, version, x.e), api.ErrNone)
			}
			for _, x := range wrongTexts {
				is(t, "Whole of none", s.Whole(name, version, x.text), api.ErrNone)
			}
		}
	}
	for _, version := range []int{math.MinInt, -8, 0, 6, 7} {
		is(t, "Change to a lesser version", s.Change("a", version), api.ErrVersion)
		for _, x := range wrongEdits {
			is(t, "Change to a lesser version", s.Change("a", version, x.e), api.ErrVersion)
		}
		for _, x := range wrongTexts {
			is(t, "Whole to a lesser version", s.Whole("a", version, x.text), api.ErrVersion)
		}
	}
	for _, x := range wrongEdits {
		is(t, "Change", s.Change("a", 8, x.e), x.want)
	}
	for _, x := range wrongTexts {
		is(t, "Whole", s.Whole("a", 8, x.text), x.want)
	}
	has(t, s, old)
}

// TestClose closes a document, none, and one twice; its name may come again then, with any version.
func TestClose(t *testing.T) {
	a, b := doc("a", 7, "one"), doc("ab", 9, "three")
	s := docs.New()
	is(t, "Close of none", s.Close("a"), api.ErrNone)
	has(t, s)
	s = storeOf(t, a, b)
	for _, name := range []string{"", "b", "aa", "A", "abc", "\xff", strings.Repeat("a", 41)} {
		is(t, "Close of none", s.Close(name), api.ErrNone)
		has(t, s, a, b)
	}
	is(t, "Close", s.Close("a"), api.OK)
	has(t, s, b)
	hasNot(t, s, "a")
	is(t, "Close, again", s.Close("a"), api.ErrNone)
	is(t, "Change of one that is no more", s.Change("a", 8), api.ErrNone)
	is(t, "Whole of one that is no more", s.Whole("a", 8, ""), api.ErrNone)
	has(t, s, b)
	hasNot(t, s, "a")
	for _, version := range []int{7, 8, 6, 0, -1, math.MaxInt, math.MinInt} {
		again := doc("a", version, "new")
		is(t, "Open, again", s.Open(again), api.OK)
		has(t, s, again, b)
		is(t, "Close", s.Close("a"), api.OK)
	}
	// The version of the one that is no more is forgotten.
	is(t, "Open, again", s.Open(doc("a", -5, "")), api.OK)
	is(t, "Change", s.Change("a", -4, edit(0, 0, 0, 0, "x")), api.OK)
	has(t, s, doc("a", -4, "x"), b)
	is(t, "Close", s.Close("ab"), api.OK)
	is(t, "Close", s.Close("a"), api.OK)
	has(t, s)
	hasNot(t, s, "a", "ab")
}

// TestAnswersStay looks at what was told ahead of later calls, and does things to it.
func TestAnswersStay(t *testing.T) {
	l := []api.Doc{doc("a", 1, "one"), doc("b", 2, "two"), doc("c", 3, "three")}
	s := storeOf(t, l...)
	all, other := s.All(), s.All()
	a, _ := s.Get("a")
	is(t, "Change", s.Change("a", 5, edit(0, 0, 0, 1, "X")), api.OK)
	is(t, "Whole", s.Whole("b", 6, "new"), api.OK)
	is(t, "Close", s.Close("c"), api.OK)
	is(t, "Open", s.Open(doc("0", 0, "zero")), api.OK)
	if a != l[0] || !slices.Equal(all, l) || !slices.Equal(other, l) {
		t.Errorf("an answer was changed: %s, %s, %s", brief(a), brief(all...), brief(other...))
	}
	now := []api.Doc{doc("0", 0, "zero"), doc("a", 5, "Xne"), doc("b", 6, "new")}
	has(t, s, now...)
	all = s.All()
	_ = append(all[:1], doc("q", 99, "queer"))
	for i := range all {
		all[i] = doc("z", 100, "\xff")
	}
	slices.Reverse(other)
	has(t, s, now...)
	hasNot(t, s, "c", "q", "z")
}

// TestEditsStay looks at the edits that are handed in, at what lies behind them, and changes them afterwards.
func TestEditsStay(t *testing.T) {
	l := []api.Edit{edit(0, 0, 0, 0, "X"), edit(0, 1, 0, 2, "\n"), edit(9, 9, 9, 9, "\xff"), edit(0, 0, 0, 0, "Y")}
	before := slices.Clone(l)
	s := storeOf(t, doc("a", 1, "abc"))
	is(t, "Change", s.Change("a", 2, l[:2]...), api.OK)
	is(t, "Change", s.Change("a", 3, l...), api.ErrUtf)
	is(t, "Change", s.Change("a", 2, l...), api.ErrVersion)
	is(t, "Change", s.Change("z", 3, l...), api.ErrNone)
	if !slices.Equal(l, before) {
		t.Errorf("Change changed its edits: %v", l)
	}
	clear(l)
	has(t, s, doc("a", 2, "X\nbc"))
}

// TestTwoStores lets one have documents that the other one has not, and others of the same names.
func TestTwoStores(t *testing.T) {
	s, other := docs.New(), docs.New()
	is(t, "Open", s.Open(doc("a", 1, "one")), api.OK)
	has(t, s, doc("a", 1, "one"))
	has(t, other)
	hasNot(t, other, "a")
	is(t, "Change", other.Change("a", 2), api.ErrNone)
	is(t, "Close", other.Close("a"), api.ErrNone)
	is(t, "Open", other.Open(doc("a", 7, "other")), api.OK)
	is(t, "Change", s.Change("a", 2, edit(0, 0, 0, 0, "X")), api.OK)
	is(t, "Whole", other.Whole("a", 8, "whole"), api.OK)
	has(t, s, doc("a", 2, "Xone"))
	has(t, other, doc("a", 8, "whole"))
	is(t, "Close", s.Close("a"), api.OK)
	has(t, s)
	has(t, other, doc("a", 8, "whole"))
	for _, d := range eight() {
		is(t, "Open", s.Open(d), api.OK)
	}
	is(t, "Open", other.Open(doc("b", 1, "")), api.OK)
	has(t, s, eight()...)
	has(t, other, doc("a", 8, "whole"), doc("b", 1, ""))
}

// TestNilStore asks for ErrArg, ahead of all else.
func TestNilStore(t *testing.T) {
	var s *docs.Store
	for _, name := range []string{"a", "", "\xff", strings.Repeat("a", 41)} {
		for _, text := range []string{"", "x", "\xff", strings.Repeat("a", 16385)} {
			is(t, "Open", s.Open(doc(name, 1, text)), api.ErrArg)
			is(t, "Change", s.Change(name, 2, edit(0, 0, 0, 0, text)), api.ErrArg)
			is(t, "Change", s.Change(name, 2, edit(9, 9, 0, 0, text)), api.ErrArg)
			is(t, "Whole", s.Whole(name, 2, text), api.ErrArg)
		}
		is(t, "Change", s.Change(name, math.MinInt), api.ErrArg)
		is(t, "Close", s.Close(name), api.ErrArg)
		hasNot(t, s, name)
	}
	if l := s.All(); len(l) != 0 {
		t.Errorf("All: %v", l)
	}
	if n := s.Size(); n != 0 {
		t.Errorf("Size: %d", n)
	}
}

// TestStoreThatNewDidNotGive is one without any, too.
func TestStoreThatNewDidNotGive(t *testing.T) {
	var s docs.Store
	has(t, &s)
	hasNot(t, &s, "a")
	is(t, "Close", s.Close("a"), api.ErrNone)
	is(t, "Change", s.Change("a", 1), api.ErrNone)
	is(t, "Whole", s.Whole("a", 1, ""), api.ErrNone)
	is(t, "Open", s.Open(doc("a", 1, "x")), api.OK)
	has(t, &s, doc("a", 1, "x"))
}

// act is a call of a store that may change it.
type act struct {
	call    byte // o, c, w or x: Open, Change, Whole, Close
	name    string
	version int
	text    string
	l       []api.Edit
}

func (a act) on(s *docs.Store) api.Errno {
	switch a.call {
	case 'o':
		return s.Open(doc(a.name, a.version, a.text))
	case 'c':
		return s.Change(a.name, a.version, a.l...)
	case 'w':
		return s.Whole(a.name, a.version, a.text)
	}
	return s.Close(a.name)
}

func (a act) onModel(m *model) api.Errno {
	switch a.call {
	case 'o':
		return m.open(doc(a.name, a.version, a.text))
	case 'c':
		return m.change(a.name, a.version, a.l...)
	case 'w':
		return m.whole(a.name, a.version, a.text)
	}
	return m.close(a.name)
}

func (a act) String() string {
	return fmt.Sprintf("%c %.45q %d %.20q %.60q", a.call, a.name, a.version, a.text, fmt.Sprint(a.l))
}

// acts are calls of some names, each with some versions, texts and edits, right ones and wrong ones.
func acts(names []string, versions []int) []act {
	texts := []string{"", "ab\ncd", "\xff"}
	changes := [][]api.Edit{nil, {edit(0, 0, 0, 0, "X"), edit(0, 1, 0, 1, "\n")}, {edit(0, 0, 0, 0, "X"), edit(2, 0, 2, 0, "")}}
	var l []act
	for _, name := range names {
		l = append(l, act{call: 'x', name: name})
		for _, version := range versions {
			for _, text := range texts {
				l = append(l, act{call: 'o', name: name, version: version, text: text}, act{call: 'w', name: name, version: version, text: text})
			}
			for _, change := range changes {
				l = append(l, act{call: 'c', name: name, version: version, l: change})
			}
		}
	}
	return l
}

// twin holds a store against a model of it, through all that is done to both.
type twin struct {
	s *docs.Store
	m model
}

// do does one thing to both: the same error, the same documents then, none behind an error that were not there, and no version that fell.
func (w *twin) do(t *testing.T, a act) {
	t.Helper()
	before := w.s.All()
	err, want := a.on(w.s), a.onModel(&w.m)
	if err != want {
		t.Fatalf("%v: %v, not %v, of %s", a, err, want, brief(before...))
	}
	all := w.s.All()
	if !slices.Equal(all, w.m.all()) || w.s.Size() != w.m.size() {
		t.Fatalf("%v: %s, %d bytes, not %s", a, brief(all...), w.s.Size(), brief(w.m.all()...))
	}
	if err != api.OK && !slices.Equal(all, before) {
		t.Fatalf("%v: %v, but %s became %s", a, err, brief(before...), brief(all...))
	}
	for _, old := range before {
		if d, ok := w.s.Get(old.Name); ok && d.Version < old.Version {
			t.Fatalf("%v: version %d of %q became %d", a, old.Version, old.Name, d.Version)
		}
	}
	at := w.m.find(a.name)
	d, ok := w.s.Get(a.name)
	if ok != (at >= 0) || ok && d != w.m.l[at] || !ok && d != (api.Doc{}) {
		t.Fatalf("%v: Get: %s, %v", a, brief(d), ok)
	}
}

// TestAllShortRuns does all runs of three calls: P7.1, P7.2.
func TestAllShortRuns(t *testing.T) {
	pool := acts([]string{"a", "aa"}, []int{-1, 2})
	for _, first := range pool {
		for _, second := range pool {
			for _, third := range pool {
				w := twin{s: docs.New()}
				w.do(t, first)
				w.do(t, second)
				w.do(t, third)
			}
		}
	}
}

// longRun is as many of a pool's calls, in an order without a rule that a reader could see, but each time the same one; versions rise a little as it goes on.
func longRun(pool []act, many int, seed uint32) []act {
	var l []act
	for i := range many {
		seed = seed*1664525 + 1013904223
		a := pool[int(seed>>8)%len(pool)]
		a.version += i / 40
		l = append(l, a)
	}
	return l
}

// busyPool has more names than a store has documents, and few calls that close one.
func busyPool() []act {
	names := []string{"", "\xff", strings.Repeat("n", 41), strings.Repeat("n", 40), "a", "aa", "ab", "a\x00", "b", "B", "\u05d0", "\u6587", "\U0001f600", "\uff61"}
	pool := acts(names, []int{-1, 0, 1, 3})
	pool = append(pool, act{call: 'o', name: "a", version: 9, text: strings.Repeat("a", 16384)}, act{call: 'o', name: "b", text: strings.Repeat("a", 16385)})
	pool = append(pool, act{call: 'w', name: "aa", version: 9, text: strings.Repeat("a", 16384)}, act{call: 'w', name: "ab", version: 9, text: strings.Repeat("a", 16385)})
	return pool
}

// TestLongRuns goes through many states of a store, full ones and empty ones: P7.1, P7.2.
func TestLongRuns(t *testing.T) {
	most := 0
	for seed := range uint32(20) {
		w := twin{s: docs.New()}
		for _, a := range longRun(busyPool(), 2000, seed) {
			w.do(t, a)
			most = max(most, len(w.m.l))
		}
		for len(w.m.l) > 0 {
			w.do(t, act{call: 'x', name: w.m.l[0].Name})
		}
		has(t, w.s)
	}
	if most != 8 {
		t.Errorf("no run had eight documents, but %d", most)
	}
}

// TestAnswersHangOnCalls makes the same runs side by side, each on a store of its own: P1, P2.
func TestAnswersHangOnCalls(t *testing.T) {
	run := longRun(busyPool(), 3000, 7)
	var want []string
	tell := func(s *docs.Store, a act) string {
		err := a.on(s)
		d, ok := s.Get(a.name)
		return fmt.Sprint(err, d, ok, s.All(), s.Size())
	}
	s := docs.New()
	for _, a := range run {
		want = append(want, tell(s, a))
	}
	var all sync.WaitGroup
	for range 4 {
		all.Go(func() {
			s := docs.New()
			for i, a := range run {
				if again := tell(s, a); again != want[i] {
					t.Errorf("%d: %v: %.200s, not %.200s", i, a, again, want[i])
					return
				}
			}
		})
	}
	all.Wait()
}

// TestAsking asks without changing: the same again, and nothing that the questions made otherwise.
func TestAsking(t *testing.T) {
	l := eight()
	s := storeOf(t, l...)
	for range 3 {
		has(t, s, l...)
		hasNot(t, s, "", "z", "aa", "\xff", strings.Repeat("a", 41))
	}
	is(t, "Close", s.Close("a"), api.OK)
	hasNot(t, s, "a")
	is(t, "Open of a name that was asked for", s.Open(doc("z", 1, "")), api.OK)
	has(t, s, append(slices.Clone(l[1:]), doc("z", 1, ""))...)
}
