package utf_test

import (
	"math"
	"slices"
	"strings"
	"sync"
	"testing"

	"bolthole/api"
	"bolthole/utf"
)

// rightTexts are right: ordinary ones, and the ends of each range of scalars.
var rightTexts = []string{
	"", "a", "\x00", "\x7f", "package main\n", "a\r\nb\n",
	"\u0080", "\u07ff", "\u0800", "\u0fff", "\u1000", "\ucfff", "\ud7ff", "\ue000", "\ufffd", "\ufffe", "\uffff",
	"\U00010000", "\U0003ffff", "\U00040000", "\U000fffff", "\U00100000", "\U0010ffff",
	"a\u05d0\U0001f600z", "\U0001f600", "\U0001f600\U0001f601", "\ufffda\ufffd", "\ufeffa", "e\u0301",
	"\U0001f600a", "\u05d0\u05d1\u05d2", strings.Repeat("a\U0001f600\u05d0", 20),
}

// wrongBytes are not right, each for one reason, in whatever right text they stand.
var wrongBytes = map[string]string{
	"a byte that goes on alone, the least":        "\x80",
	"a byte that goes on alone, the greatest":     "\xbf",
	"one more byte that goes on, of two":          "\xc2\x80\x80",
	"one more byte that goes on, of three":        "\xe6\x96\x87\xbf",
	"one more byte that goes on, of four":         "\xf0\x9f\x98\x80\x80",
	"two bytes for one, the least":                "\xc0\x80",
	"two bytes for one, the greatest":             "\xc1\xbf",
	"three bytes for one":                         "\xe0\x80\x80",
	"three bytes for two, the greatest":           "\xe0\x9f\xbf",
	"four bytes for one":                          "\xf0\x80\x80\x80",
	"four bytes for three, the greatest":          "\xf0\x8f\xbf\xbf",
	"five bytes":                                  "\xf8\x88\x80\x80\x80",
	"six bytes":                                   "\xfc\x84\x80\x80\x80\x80",
	"half a pair, the least":                      "\xed\xa0\x80",
	"half a pair, the last of the first halves":   "\xed\xaf\xbf",
	"half a pair, the first of the second halves": "\xed\xb0\x80",
	"half a pair, the greatest":                   "\xed\xbf\xbf",
	"a pair of halves":                            "\xed\xa0\xbd\xed\xb8\x80",
	"beyond the last scalar, the least":           "\xf4\x90\x80\x80",
	"beyond the last scalar, by its first byte":   "\xf5\x80\x80\x80",
	"beyond the last scalar, the greatest of 4":   "\xf7\xbf\xbf\xbf",
	"no first byte: fe":                           "\xfe",
	"no first byte: ff":                           "\xff",
	"cut off, one of two":                         "\xc2",
	"cut off, one of two, the last such":          "\xdf",
	"cut off, one of three":                       "\xe6",
	"cut off, two of three":                       "\xe6\x96",
	"cut off, one of four":                        "\xf0",
	"cut off, two of four":                        "\xf0\x9f",
	"cut off, three of four":                      "\xf0\x9f\x98",
	"another scalar within two":                   "\xc2a",
	"another scalar within three":                 "\xe6\x96a",
	"another scalar within four":                  "\xf0\x9f\x98a",
	"bytes of sixteen bits":                       "\xff\xfea\x00",
	"bytes of Latin letters":                      "caf\xe9",
}

// wrongTexts are all wrong bytes: alone, and at the end, at the beginning and within a right text.
func wrongTexts() []string {
	var l []string
	for _, b := range wrongBytes {
		l = append(l, b, "ab"+b, "\U0001f600"+b, b+"ab", b+"\u05d0", "a"+b+"\U0001f600z")
	}
	slices.Sort(l)
	return l
}

// numbers are those that a call may be handed about a text of so many bytes or units.
func numbers(most int) []int {
	l := []int{math.MinInt, math.MinInt32, -2, -1, most + 1, most + 2, 2*most + 3, math.MaxInt32, math.MaxInt - 1, math.MaxInt}
	for i := 0; i <= most; i++ {
		l = append(l, i)
	}
	return l
}

// bytesOf are the bytes that so many of them give a number, shortest or not.
func bytesOf(n, many int) string {
	if many == 1 {
		return string([]byte{byte(n)})
	}
	b := make([]byte, many)
	for i := many - 1; i > 0; i-- {
		b[i] = byte(0x80 | n&0x3f)
		n >>= 6
	}
	b[0] = byte(0xf00>>many | n)
	return string(b)
}

// bytesNeeded are how many bytes are the fewest that give a number.
func bytesNeeded(n int) int {
	switch {
	case n < 0x80:
		return 1
	case n < 0x800:
		return 2
	case n < 0x10000:
		return 3
	}
	return 4
}

// scalar is the one that a text begins with, by the words' own definition: it is looked for among all numbers of bytes.
func scalar(s string) (n, many int, ok bool) {
	for many := 1; many <= 4 && many <= len(s); many++ {
		n := int(s[0])
		if many > 1 {
			n &= 0x7f >> many
		}
		for i := 1; i < many; i++ {
			n = n<<6 | int(s[i]&0x3f)
		}
		right := bytesNeeded(n) == many && n <= 0x10ffff && (n < 0xd800 || n > 0xdfff)
		if right && s[:many] == bytesOf(n, many) {
			return n, many, true
		}
	}
	return 0, 0, false
}

// begins tells, of each scalar of a text and of its end, where it begins, and how many units stand ahead; false, if the text is not right.
func begins(s string) (bytes, units []int, ok bool) {
	at, unit := 0, 0
	for at < len(s) {
		n, many, ok := scalar(s[at:])
		if !ok {
			return nil, nil, false
		}
		bytes, units = append(bytes, at), append(units, unit)
		at, unit = at+many, unit+1
		if n >= 0x10000 {
			unit++
		}
	}
	return append(bytes, at), append(units, unit), true
}

func TestRight(t *testing.T) {
	for _, s := range rightTexts {
		if !utf.Right(s) {
			t.Errorf("Right(%q): false", s)
		}
	}
	for _, s := range wrongTexts() {
		if utf.Right(s) {
			t.Errorf("Right(%x): true", s)
		}
	}
	for why, s := range wrongBytes {
		if utf.Right(s) {
			t.Errorf("%s: Right(%x): true", why, s)
		}
	}
}

// TestRightOfAllNumbers goes through all that up to four bytes can say, in each number of bytes that can say it.
func TestRightOfAllNumbers(t *testing.T) {
	for n := range 1 << 21 {
		for many := bytesNeeded(n); many <= 4; many++ {
			s := bytesOf(n, many)
			want := many == bytesNeeded(n) && n <= 0x10ffff && (n < 0xd800 || n > 0xdfff)
			if utf.Right(s) != want {
				t.Fatalf("Right(%x): %v", s, !want)
			}
			units := 1
			if n >= 0x10000 {
				units = 2
			}
			got, e := utf.Units(s)
			if want && (got != units || e != api.OK) || !want && (got != 0 || e != api.ErrUtf) {
				t.Fatalf("Units(%x): %d, %v", s, got, e)
			}
		}
	}
}

// TestRightOfAllShortTexts goes through all texts of up to four of the bytes at which something changes.
func TestRightOfAllShortTexts(t *testing.T) {
	const edges = "\x00a\x7f\x80\x8f\x90\x9f\xa0\xbf\xc0\xc1\xc2\xdf\xe0\xe1\xec\xed\xee\xef\xf0\xf1\xf3\xf4\xf5\xf7\xf8\xff"
	l := []string{""}
	for range 4 {
		var longer []string
		for _, s := range l {
			for i := range len(edges) {
				longer = append(longer, s+edges[i:i+1])
			}
		}
		for _, s := range longer {
			_, units, want := begins(s)
			if utf.Right(s) != want {
				t.Fatalf("Right(%x): %v", s, !want)
			}
			n, e := utf.Units(s)
			if want && (n != units[len(units)-1] || e != api.OK) || !want && (n != 0 || e != api.ErrUtf) {
				t.Fatalf("Units(%x): %d, %v", s, n, e)
			}
		}
		l = longer
	}
}

func TestUnits(t *testing.T) {
	tests := []struct {
		l    []string
		want int
	}{
		{nil, 0},
		{[]string{}, 0},
		{[]string{""}, 0},
		{[]string{"", "", ""}, 0},
		{[]string{"a"}, 1},
		{[]string{"\ufffd"}, 1},
		{[]string{"\uffff"}, 1},
		{[]string{"\U00010000"}, 2},
		{[]string{"\U0010ffff"}, 2},
		{[]string{"a\U0001f600"}, 3},
		{[]string{"a\u05d0\U0001f600z"}, 5},
		{[]string{"a", "", "\U0001f600", "\u05d0"}, 4},
		{[]string{"\r\n", "\x00"}, 3},
		{[]string{strings.Repeat("\U0001f600", 5000), strings.Repeat("ab", 5000)}, 20000},
	}
	for _, x := range tests {
		if n, e := utf.Units(x.l...); n != x.want || e != api.OK {
			t.Errorf("Units(%q): %d, %v", x.l, n, e)
		}
	}
}

// TestUnitsWrong lets one of several texts be wrong, at each place.
func TestUnitsWrong(t *testing.T) {
	for _, s := range wrongTexts() {
		for _, l := range [][]string{{s}, {s, "a"}, {"a", s}, {"", "a", s, "\U0001f600"}, {s, s}} {
			if n, e := utf.Units(l...); n != 0 || e != api.ErrUtf {
				t.Errorf("Units(%q): %d, %v", l, n, e)
			}
		}
	}
	// The bytes of one scalar in two texts: neither is right, though they are when joined.
	for _, s := range []string{"\u05d0", "\u6587", "\U0001f600"} {
		for i := 1; i < len(s); i++ {
			if n, e := utf.Units(s[:i], s[i:]); n != 0 || e != api.ErrUtf {
				t.Errorf("Units(%x, %x): %d, %v", s[:i], s[i:], n, e)
			}
		}
	}
}

// TestUnitsLeavesItsList looks at what is handed in, and at what lies behind it.
func TestUnitsLeavesItsList(t *testing.T) {
	all := []string{"a", "\U0001f600", "\xff", "b"}
	if n, e := utf.Units(all[:2]...); n != 3 || e != api.OK {
		t.Errorf("Units looks behind the length: %d, %v", n, e)
	}
	utf.Units(all...)
	if !slices.Equal(all, []string{"a", "\U0001f600", "\xff", "b"}) {
		t.Errorf("Units changed its texts: %q", all)
	}
}

func TestOffset(t *testing.T) {
	const s = "a\u05d0\U0001f600z"
	tests := []struct {
		s        string
		unit, at int
		e        api.Errno
	}{
		{"", 0, 0, api.OK},
		{"", 1, 0, api.ErrUnit},
		{"", -1, 0, api.ErrUnit},
		{"abc", 0, 0, api.OK},
		{"abc", 2, 2, api.OK},
		{"abc", 3, 3, api.OK},
		{"abc", 4, 0, api.ErrUnit},
		{s, -1, 0, api.ErrUnit},
		{s, 0, 0, api.OK},
		{s, 1, 1, api.OK},
		{s, 2, 3, api.OK},
		{s, 3, 0, api.ErrUnit}, // within the scalar
		{s, 4, 7, api.OK},
		{s, 5, 8, api.OK},
		{s, 6, 0, api.ErrUnit},
		{s, 8, 0, api.ErrUnit}, // its bytes, not its units
		{"\U0001f600", 0, 0, api.OK},
		{"\U0001f600", 1, 0, api.ErrUnit},
		{"\U0001f600", 2, 4, api.OK},
		{"\U0001f600", 3, 0, api.ErrUnit},
		{"\uffff\U00010000", 1, 3, api.OK},
		{"\uffff\U00010000", 2, 0, api.ErrUnit},
		{"\uffff\U00010000", 3, 7, api.OK},
		{s, math.MinInt, 0, api.ErrUnit},
		{s, math.MaxInt, 0, api.ErrUnit},
	}
	for _, x := range tests {
		if at, e := utf.Offset(x.s, x.unit); at != x.at || e != x.e {
			t.Errorf("Offset(%q, %d): %d, %v", x.s, x.unit, at, e)
		}
	}
}

func TestUnit(t *testing.T) {
	const s = "a\u05d0\U0001f600z"
	tests := []struct {
		s        string
		at, unit int
		e        api.Errno
	}{
		{"", 0, 0, api.OK},
		{"", 1, 0, api.ErrUnit},
		{"", -1, 0, api.ErrUnit},
		{"abc", 0, 0, api.OK},
		{"abc", 2, 2, api.OK},
		{"abc", 3, 3, api.OK},
		{"abc", 4, 0, api.ErrUnit},
		{s, -1, 0, api.ErrUnit},
		{s, 0, 0, api.OK},
		{s, 1, 1, api.OK},
		{s, 2, 0, api.ErrUnit},
		{s, 3, 2, api.OK},
		{s, 4, 0, api.ErrUnit},
		{s, 5, 0, api.ErrUnit},
		{s, 6, 0, api.ErrUnit},
		{s, 7, 4, api.OK},
		{s, 8, 5, api.OK},
		{s, 9, 0, api.ErrUnit},
		{"\uffff\U00010000", 3, 1, api.OK},
		{"\uffff\U00010000", 7, 3, api.OK},
		{"\ufffd", 1, 0, api.ErrUnit},
		{"\ufffd", 3, 1, api.OK},
		{s, math.MinInt, 0, api.ErrUnit},
		{s, math.MaxInt, 0, api.ErrUnit},
	}
	for _, x := range tests {
		if unit, e := utf.Unit(x.s, x.at); unit != x.unit || e != x.e {
			t.Errorf("Unit(%q, %d): %d, %v", x.s, x.at, unit, e)
		}
	}
}

// TestPlacesOfWrongTexts: that the text is not right is told ahead of what is wrong with the number.
func TestPlacesOfWrongTexts(t *testing.T) {
	for _, s := range wrongTexts() {
		for _, n := range numbers(len(s)) {
			if at, e := utf.Offset(s, n); at != 0 || e != api.ErrUtf {
				t.Errorf("Offset(%x, %d): %d, %v", s, n, at, e)
			}
			if unit, e := utf.Unit(s, n); unit != 0 || e != api.ErrUtf {
				t.Errorf("Unit(%x, %d): %d, %v", s, n, unit, e)
			}
		}
	}
}

// TestThereAndBack holds every number against where the scalars begin, each of which is answered there and back.
func TestThereAndBack(t *testing.T) {
	for _, s := range rightTexts {
		bytes, units, ok := begins(s)
		if !ok {
			t.Fatalf("%q is not right", s)
		}
		for _, n := range numbers(len(s)) {
			wantAt, wantE := 0, api.ErrUnit
			if i := slices.Index(units, n); i >= 0 {
				wantAt, wantE = bytes[i], api.OK
			}
			at, e := utf.Offset(s, n)
			if at != wantAt || e != wantE {
				t.Errorf("Offset(%q, %d): %d, %v", s, n, at, e)
			}
			if e == api.OK {
				ahead, e := utf.Units(s[:at])
				back, f := utf.Unit(s, at)
				if ahead != n || e != api.OK || back != n || f != api.OK {
					t.Errorf("ahead of unit %d of %q: %d, %v; back: %d, %v", n, s, ahead, e, back, f)
				}
			}
			wantUnit, wantF := 0, api.ErrUnit
			if i := slices.Index(bytes, n); i >= 0 {
				wantUnit, wantF = units[i], api.OK
			}
			unit, f := utf.Unit(s, n)
			if unit != wantUnit || f != wantF {
				t.Errorf("Unit(%q, %d): %d, %v", s, n, unit, f)
			}
			if f == api.OK {
				if back, e := utf.Offset(s, unit); back != n || e != api.OK {
					t.Errorf("back from byte %d of %q: %d, %v", n, s, back, e)
				}
			}
		}
	}
}

func TestJoined(t *testing.T) {
	for _, a := range rightTexts {
		for _, b := range rightTexts {
			m, e := utf.Units(a)
			n, f := utf.Units(b)
			both, g := utf.Units(a, b)
			joined, h := utf.Units(a + b)
			if e != api.OK || f != api.OK || g != api.OK || h != api.OK || both != m+n || joined != m+n {
				t.Errorf("%q, %q: %d, %d; together %d, joined %d", a, b, m, n, both, joined)
			}
		}
	}
}

func TestCut(t *testing.T) {
	const s = "a\u05d0\U0001f600z"
	tests := []struct {
		s    string
		most int
		want string
	}{
		{"", -1, ""}, {"", 0, ""}, {"", 1, ""},
		{"abc", -1, ""}, {"abc", 0, ""}, {"abc", 1, "a"}, {"abc", 3, "abc"}, {"abc", 4, "abc"},
		{s, 0, ""}, {s, 1, "a"}, {s, 2, "a"}, {s, 3, "a\u05d0"}, {s, 4, "a\u05d0"}, {s, 6, "a\u05d0"},
		{s, 7, "a\u05d0\U0001f600"}, {s, 8, s}, {s, 9, s}, {s, math.MaxInt, s}, {s, math.MinInt, ""},
		{"\U0001f600", 1, ""}, {"\U0001f600", 3, ""}, {"\U0001f600", 4, "\U0001f600"},
		{"\ufffda", 2, ""}, {"\ufffda", 3, "\ufffd"},
		{"abc\xff", 2, ""}, {"abc\xff", 3, ""}, {"abc\xff", 9, ""}, {"ab\xe6\x96", 2, ""},
	}
	for _, x := range tests {
		if got := utf.Cut(x.s, x.most); got != x.want {
			t.Errorf("Cut(%q, %d): %q", x.s, x.most, got)
		}
	}
	for _, s := range rightTexts {
		bytes, _, _ := begins(s)
		for _, most := range numbers(len(s)) {
			want := 0
			for _, at := range bytes {
				if at <= most {
					want = at
				}
			}
			if got := utf.Cut(s, most); got != s[:want] {
				t.Errorf("Cut(%q, %d): %q", s, most, got)
			}
		}
	}
	for _, s := range wrongTexts() {
		for _, most := range numbers(len(s)) {
			if got := utf.Cut(s, most); got != "" {
				t.Errorf("Cut(%x, %d): %q", s, most, got)
			}
		}
	}
}

// answers is what every call answers of a text and a number.
type answers struct {
	right              bool
	units, at, unit    int
	unitsE, atE, unitE api.Errno
	cut                string
}

func ask(s string, n int) answers {
	var a answers
	a.right = utf.Right(s)
	a.units, a.unitsE = utf.Units(s, s)
	a.at, a.atE = utf.Offset(s, n)
	a.unit, a.unitE = utf.Unit(s, n)
	a.cut = utf.Cut(s, n)
	return a
}

// TestAnswersHangOnArguments asks every call everything, again in the other order, and side by side: P1 and P2.
func TestAnswersHangOnArguments(t *testing.T) {
	type question struct {
		s string
		n int
	}
	var questions []question
	for _, s := range append(wrongTexts(), rightTexts...) {
		for _, n := range numbers(len(s)) {
			questions = append(questions, question{s, n})
		}
	}
	var first []answers
	for _, q := range questions {
		first = append(first, ask(q.s, q.n))
	}
	var all sync.WaitGroup
	for range 4 {
		all.Go(func() {
			for i, q := range slices.Backward(questions) {
				if again := ask(q.s, q.n); again != first[i] {
					t.Errorf("%q, %d: %v, then %v", q.s, q.n, first[i], again)
				}
			}
		})
	}
	all.Wait()
}
