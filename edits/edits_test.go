package edits_test

import (
	"fmt"
	"math"
	"slices"
	"strings"
	"sync"
	"testing"

	"bolthole/api"
	"bolthole/edits"
)

// edit is one from a line and a unit to a line and a unit.
func edit(line, unit, toLine, toUnit int, text string) api.Edit {
	return api.Edit{From: api.Place{Line: line, Unit: unit}, To: api.Place{Line: toLine, Unit: toUnit}, Text: text}
}

// brief tells edits without all of their texts, which may be long.
func brief(l ...api.Edit) string {
	s := ""
	for _, e := range l {
		s += fmt.Sprintf("[%v %v %.60q]", e.From, e.To, e.Text)
	}
	return s
}

// apply holds what edits make of a text against what is wanted.
func apply(t *testing.T, s string, l []api.Edit, want string, wantErr api.Errno) {
	t.Helper()
	if got, err := edits.Apply(s, l...); got != want || err != wantErr {
		t.Errorf("Apply(%.60q, %s): %.60q, %v", s, brief(l...), got, err)
	}
}

// move holds where a byte stands behind an edit against what is wanted.
func move(t *testing.T, s string, e api.Edit, at, want int, wantErr api.Errno) {
	t.Helper()
	if got, err := edits.Move(s, e, at); got != want || err != wantErr {
		t.Errorf("Move(%.60q, %s, %d): %d, %v", s, brief(e), at, got, err)
	}
}

// mixed has a scalar of each number of bytes on its first line, and ends behind a byte 10.
const mixed = "a\u05d0\u6587\U0001f600z\n\n\U0001f600\n"

func TestApplyOne(t *testing.T) {
	tests := []struct {
		s    string
		e    api.Edit
		want string
	}{
		{"", edit(0, 0, 0, 0, ""), ""},
		{"", edit(0, 0, 0, 0, "a\n\u05d0"), "a\n\u05d0"},
		{"abc", edit(0, 1, 0, 1, ""), "abc"},
		// Put in.
		{"abc", edit(0, 0, 0, 0, "X"), "Xabc"},
		{"abc", edit(0, 1, 0, 1, "XYZ"), "aXYZbc"},
		{"abc", edit(0, 3, 0, 3, "X"), "abcX"},
		{"ab\ncd", edit(0, 2, 0, 2, "X"), "abX\ncd"},
		{"ab\ncd", edit(1, 0, 1, 0, "X"), "ab\nXcd"},
		{"ab\n", edit(1, 0, 1, 0, "X"), "ab\nX"},
		{"ab", edit(0, 1, 0, 1, "\n\n"), "a\n\nb"},
		// Taken away.
		{"abc", edit(0, 0, 0, 1, ""), "bc"},
		{"abc", edit(0, 1, 0, 2, ""), "ac"},
		{"abc", edit(0, 2, 0, 3, ""), "ab"},
		{"abc", edit(0, 0, 0, 3, ""), ""},
		{"ab\ncd", edit(0, 2, 1, 0, ""), "abcd"},
		{"ab\ncd", edit(0, 1, 1, 1, ""), "ad"},
		{"ab\n\ncd\n", edit(0, 0, 3, 0, ""), ""},
		{"a\r\nb", edit(0, 1, 1, 0, ""), "ab"},
		// Both.
		{"abc", edit(0, 0, 0, 1, "X"), "Xbc"},
		{"abc", edit(0, 1, 0, 2, "XYZ"), "aXYZc"},
		{"abc", edit(0, 2, 0, 3, "\n"), "ab\n"},
		{"abc", edit(0, 0, 0, 3, "X"), "X"},
		{"ab\ncd", edit(0, 1, 1, 1, "X"), "aXd"},
		{"ab\ncd", edit(0, 2, 1, 0, "\n"), "ab\ncd"},
		// By units, not by bytes, nor by scalars.
		{mixed, edit(0, 1, 0, 2, ""), "a\u6587\U0001f600z\n\n\U0001f600\n"},
		{mixed, edit(0, 2, 0, 3, "X"), "a\u05d0X\U0001f600z\n\n\U0001f600\n"},
		{mixed, edit(0, 3, 0, 5, "\U0001f601"), "a\u05d0\u6587\U0001f601z\n\n\U0001f600\n"},
		{mixed, edit(0, 5, 2, 2, ""), "a\u05d0\u6587\U0001f600\n"},
		{mixed, edit(2, 2, 3, 0, "X"), "a\u05d0\u6587\U0001f600z\n\n\U0001f600X"},
	}
	for _, x := range tests {
		apply(t, x.s, []api.Edit{x.e}, x.want, api.OK)
	}
}

func TestApplyNone(t *testing.T) {
	for _, s := range append(textsOf(3, "\n", "a", "\U0001f600"), mixed, strings.Repeat("a", api.MaxText)) {
		apply(t, s, nil, s, api.OK)
		apply(t, s, []api.Edit{}, s, api.OK)
	}
	for _, s := range wrongTexts() {
		apply(t, s, nil, "", api.ErrUtf)
	}
}

// TestApplySeveral: the places of each are those of the text that the one ahead made.
func TestApplySeveral(t *testing.T) {
	tests := []struct {
		s    string
		l    []api.Edit
		want string
	}{
		{"abc", []api.Edit{edit(0, 0, 0, 0, "X"), edit(0, 0, 0, 0, "Y")}, "YXabc"},
		{"abc", []api.Edit{edit(0, 0, 0, 1, ""), edit(0, 0, 0, 1, "")}, "c"},
		{"abc", []api.Edit{edit(0, 3, 0, 3, "d"), edit(0, 4, 0, 4, "e"), edit(0, 0, 0, 5, "f")}, "f"},
		{"abc", []api.Edit{edit(0, 1, 0, 2, "\n"), edit(1, 1, 1, 1, "X")}, "a\ncX"},
		{"a\nb", []api.Edit{edit(0, 1, 1, 0, ""), edit(0, 2, 0, 2, "X")}, "abX"},
		{"", []api.Edit{edit(0, 0, 0, 0, "\U0001f600"), edit(0, 2, 0, 2, "z"), edit(0, 0, 0, 2, "\u05d0"), edit(0, 1, 0, 2, "")}, "\u05d0"},
		{"one\ntwo\n", []api.Edit{edit(0, 1, 1, 1, "X"), edit(0, 0, 0, 0, "\n"), edit(2, 0, 2, 0, "end"), edit(1, 0, 2, 0, "")}, "\nend"},
	}
	for _, x := range tests {
		apply(t, x.s, x.l, x.want, api.OK)
	}
}

// TestPlacesNotInTheText has those that are in no text, as From, as To, and as both.
func TestPlacesNotInTheText(t *testing.T) {
	inner := api.Place{Line: 0, Unit: 1}
	for _, p := range []api.Place{
		{Line: 0, Unit: -1}, {Line: 0, Unit: 7}, {Line: 0, Unit: 11}, {Line: 0, Unit: 4}, // the last one is within a scalar
		{Line: 1, Unit: 1}, {Line: 2, Unit: 1}, {Line: 2, Unit: 3}, {Line: 3, Unit: 1},
		{Line: -1, Unit: 0}, {Line: 4, Unit: 0}, {Line: -1, Unit: -1},
		{Line: math.MinInt, Unit: math.MinInt}, {Line: math.MaxInt, Unit: math.MaxInt}, {Line: 0, Unit: math.MaxInt}, {Line: math.MaxInt, Unit: 0},
	} {
		for _, e := range []api.Edit{{From: p, To: inner}, {From: inner, To: p, Text: "X"}, {From: p, To: p, Text: "\n"}} {
			apply(t, mixed, []api.Edit{e}, "", api.ErrPlace)
			move(t, mixed, e, 0, 0, api.ErrPlace)
		}
	}
}

// TestFirstError lets two errors hold at once, or one stand behind another one.
func TestFirstError(t *testing.T) {
	full := strings.Repeat("a", api.MaxText)
	good := edit(0, 0, 0, 0, "X")
	wrongText := edit(0, 0, 0, 0, "\xff")
	wrongPlace := edit(0, 0, 9, 9, "")
	wrongOrder := edit(0, 1, 0, 0, "")
	tooLong := edit(0, 0, 0, 0, full+"a")
	tests := []struct {
		s    string
		l    []api.Edit
		want api.Errno
	}{
		// One edit, with a text that is not right.
		{"\xff", []api.Edit{good}, api.ErrUtf},
		{"\xff", []api.Edit{wrongPlace}, api.ErrUtf},
		{"\xff", []api.Edit{wrongOrder}, api.ErrUtf},
		{"\xff", []api.Edit{tooLong}, api.ErrUtf},
		{full + "\xff", []api.Edit{good}, api.ErrUtf},
		{"ab", []api.Edit{wrongText}, api.ErrUtf},
		{"ab", []api.Edit{edit(9, 9, 9, 9, "\xff")}, api.ErrUtf},
		{"ab", []api.Edit{edit(0, 1, 0, 0, "\xff")}, api.ErrUtf},
		{full, []api.Edit{wrongText}, api.ErrUtf},
		// .. with a place that is not in the text.
		{"ab", []api.Edit{edit(0, 3, 0, 0, "")}, api.ErrPlace},
		{"ab", []api.Edit{edit(0, 0, 0, -1, "")}, api.ErrPlace},
		{"ab", []api.Edit{edit(1, 0, 0, 0, "")}, api.ErrPlace},
		{"ab", []api.Edit{edit(0, 3, 0, 3, full)}, api.ErrPlace},
		{full, []api.Edit{edit(0, 0, 1, 0, "XY")}, api.ErrPlace},
		// .. with From behind To, or too long.
		{"ab", []api.Edit{wrongOrder}, api.ErrEdit},
		{"a\nb", []api.Edit{edit(1, 0, 0, 1, "")}, api.ErrEdit},
		{"ab\nb", []api.Edit{edit(1, 0, 0, 2, "")}, api.ErrEdit},
		{"ab", []api.Edit{edit(0, 2, 0, 1, full)}, api.ErrEdit},
		{full, []api.Edit{edit(0, 1, 0, 0, "XY")}, api.ErrEdit},
		{full, []api.Edit{good}, api.ErrFull},
		// Several: the first that is wrong tells, whatever is wrong with those behind it.
		{"ab", []api.Edit{good, wrongText}, api.ErrUtf},
		{"ab", []api.Edit{good, good, wrongPlace}, api.ErrPlace},
		{"ab", []api.Edit{good, wrongOrder, good}, api.ErrEdit},
		{"ab", []api.Edit{good, tooLong, good}, api.ErrFull},
		{"ab", []api.Edit{wrongPlace, wrongText}, api.ErrPlace},
		{"ab", []api.Edit{wrongOrder, wrongText}, api.ErrEdit},
		{"ab", []api.Edit{wrongOrder, wrongPlace}, api.ErrEdit},
		{"ab", []api.Edit{tooLong, wrongText}, api.ErrFull},
		{"ab", []api.Edit{tooLong, wrongPlace}, api.ErrFull},
		{"ab", []api.Edit{tooLong, wrongOrder}, api.ErrFull},
		{"\xff", []api.Edit{wrongText, wrongPlace}, api.ErrUtf},
		// Right in the first text, but not in the one made of it; and the other way round.
		{"ab", []api.Edit{edit(0, 1, 0, 2, ""), edit(0, 2, 0, 2, "")}, api.ErrPlace},
		{"a\nb", []api.Edit{edit(0, 1, 1, 0, ""), edit(1, 0, 1, 0, "")}, api.ErrPlace},
		{"ab", []api.Edit{edit(0, 0, 0, 1, "\U0001f600"), edit(0, 1, 0, 1, "")}, api.ErrPlace},
		{"ab", []api.Edit{edit(0, 3, 0, 3, ""), good}, api.ErrPlace},
		// Two texts that are wrong, but would be right when joined.
		{"ab", []api.Edit{edit(0, 1, 0, 1, "\xd7"), edit(0, 2, 0, 2, "\x90")}, api.ErrUtf},
		{"ab\xd7", []api.Edit{edit(0, 2, 0, 2, "\x90")}, api.ErrUtf},
	}
	for i, x := range tests {
		if s, err := edits.Apply(x.s, x.l...); s != "" || err != x.want {
			t.Errorf("%d: %.60q, %v, not %v", i, s, err, x.want)
		}
		if len(x.l) != 1 {
			continue
		}
		for _, at := range []int{-1, 0, 1, len(x.s), len(x.s) + 1} {
			move(t, x.s, x.l[0], at, 0, x.want)
		}
	}
}

func TestWrongTexts(t *testing.T) {
	for _, w := range wrongTexts() {
		apply(t, w, []api.Edit{edit(0, 0, 0, 0, "a")}, "", api.ErrUtf)
		apply(t, "abc", []api.Edit{edit(0, 0, 0, 1, w)}, "", api.ErrUtf)
		move(t, w, edit(0, 0, 0, 0, "a"), 0, 0, api.ErrUtf)
		move(t, "abc", edit(0, 0, 0, 1, w), 0, 0, api.ErrUtf)
		for _, pair := range [][2]string{{w, "abc"}, {"abc", w}, {w, ""}, {"", w}, {w, w}} {
			if e, err := edits.Between(pair[0], pair[1]); e != (api.Edit{}) || err != api.ErrUtf {
				t.Errorf("Between(%q, %q): %v, %v", pair[0], pair[1], e, err)
			}
		}
	}
}

// TestMaxText counts bytes, of all that an edit makes: those of scalars of several ones, too.
func TestMaxText(t *testing.T) {
	most := strings.Repeat("a", api.MaxText)
	lines := strings.Repeat("\n", api.MaxText)
	wide := strings.Repeat("\U0001f600", api.MaxText/4)
	end := api.MaxText / 2 // in units of wide
	tests := []struct {
		s    string
		l    []api.Edit
		want string
		err  api.Errno
	}{
		{"", []api.Edit{edit(0, 0, 0, 0, most)}, most, api.OK},
		{"", []api.Edit{edit(0, 0, 0, 0, wide)}, wide, api.OK},
		{"", []api.Edit{edit(0, 0, 0, 0, most+"a")}, "", api.ErrFull},
		{"", []api.Edit{edit(0, 0, 0, 0, wide+"a")}, "", api.ErrFull},
		{most[1:], []api.Edit{edit(0, 0, 0, 0, "a")}, most, api.OK},
		{most[1:], []api.Edit{edit(0, 0, 0, 0, "\u05d0")}, "", api.ErrFull},
		{most, []api.Edit{edit(0, 5, 0, 5, "")}, most, api.OK},
		{most, []api.Edit{edit(0, 5, 0, 6, "a")}, most, api.OK},
		{most, []api.Edit{edit(0, 5, 0, 6, "aa")}, "", api.ErrFull},
		{most, []api.Edit{edit(0, api.MaxText, 0, api.MaxText, "a")}, "", api.ErrFull},
		{most, []api.Edit{edit(0, 0, 0, api.MaxText, lines)}, lines, api.OK},
		{lines, []api.Edit{edit(0, 0, api.MaxText, 0, lines+"\n")}, "", api.ErrFull},
		{lines, []api.Edit{edit(api.MaxText, 0, api.MaxText, 0, "\n")}, "", api.ErrFull},
		{lines, []api.Edit{edit(9, 0, api.MaxText, 0, "")}, lines[:9], api.OK},
		{wide, []api.Edit{edit(0, end-2, 0, end, "\u6587a")}, wide[4:] + "\u6587a", api.OK},
		{wide, []api.Edit{edit(0, end-2, 0, end, "\u6587\u05d0")}, "", api.ErrFull},
		// Too long ahead of the edit: what it makes counts.
		{most + "a", []api.Edit{edit(0, 0, 0, 1, "")}, most, api.OK},
		{most + "a", []api.Edit{edit(0, 0, 0, 1, "b")}, "", api.ErrFull},
		{most + "aa", []api.Edit{edit(0, 0, 0, 1, "")}, "", api.ErrFull},
		{most + most + most, []api.Edit{edit(0, 1, 0, 3*api.MaxText, "")}, "a", api.OK},
		// Too long in between: each edit's counts.
		{most, []api.Edit{edit(0, 0, 0, 0, "a"), edit(0, 0, 0, 1, "")}, "", api.ErrFull},
		{most, []api.Edit{edit(0, 0, 0, 1, ""), edit(0, 0, 0, 0, "a")}, most, api.OK},
		{"", []api.Edit{edit(0, 0, 0, 0, most), edit(0, 0, 0, 1, ""), edit(0, 0, 0, 0, "a"), edit(0, 0, 0, api.MaxText, wide)}, wide, api.OK},
	}
	for _, x := range tests {
		apply(t, x.s, x.l, x.want, x.err)
		if len(x.l) == 1 {
			want, _ := modelMove(x.s, x.l[0], len(x.s))
			move(t, x.s, x.l[0], len(x.s), want, x.err)
		}
	}
	// No edit: nothing comes of one. (So edits behind none are those edits, as P6.3 has it.)
	apply(t, most+"a", nil, most+"a", api.OK)
}

// placesAround are those of a short text, and some around them that are not in it.
func placesAround(s string) []api.Place {
	var l []api.Place
	lines := strings.Split(s, "\n")
	for n := -1; n <= len(lines); n++ {
		most := 0
		if n >= 0 && n < len(lines) {
			most = len(lines[n])
		}
		for unit := -1; unit <= most+1; unit++ {
			l = append(l, api.Place{Line: n, Unit: unit})
		}
	}
	return l
}

// TestAllShortTexts goes through all edits of short texts, and all bytes of these: E1, and E2's Move.
func TestAllShortTexts(t *testing.T) {
	for _, s := range textsOf(3, "\n", "a", "\u05d0", "\U0001f600") {
		around := placesAround(s)
		for _, from := range around {
			for _, to := range around {
				for _, text := range []string{"", "X", "\n\U0001f601", "\xff"} {
					e := api.Edit{From: from, To: to, Text: text}
					want, wantErr := modelApply(s, e)
					apply(t, s, []api.Edit{e}, want, wantErr)
					for at := -1; at <= len(s)+1; at++ {
						want, wantErr := modelMove(s, e, at)
						move(t, s, e, at, want, wantErr)
					}
				}
			}
		}
		if t.Failed() {
			return
		}
	}
}

func TestMove(t *testing.T) {
	tests := []struct {
		s    string
		e    api.Edit
		want []int // of each byte, and of the end
	}{
		{"", edit(0, 0, 0, 0, ""), []int{0}},
		{"", edit(0, 0, 0, 0, "XY"), []int{0}},
		{"abcd", edit(0, 1, 0, 3, "XYZ"), []int{0, 1, 4, 4, 5}},
		{"abcd", edit(0, 1, 0, 3, ""), []int{0, 1, 1, 1, 2}},
		{"abcd", edit(0, 1, 0, 3, "X"), []int{0, 1, 2, 2, 3}},
		{"abcd", edit(0, 2, 0, 2, "X"), []int{0, 1, 2, 4, 5}},
		{"abcd", edit(0, 2, 0, 2, ""), []int{0, 1, 2, 3, 4}},
		{"abcd", edit(0, 0, 0, 0, "XY"), []int{0, 3, 4, 5, 6}},
		{"abcd", edit(0, 4, 0, 4, "XY"), []int{0, 1, 2, 3, 4}},
		{"abcd", edit(0, 0, 0, 4, "XY"), []int{0, 2, 2, 2, 2}},
		{"abcd", edit(0, 0, 0, 4, ""), []int{0, 0, 0, 0, 0}},
		{"ab\ncd", edit(0, 1, 1, 1, "\u05d0"), []int{0, 1, 3, 3, 3, 4}},
		{"ab\ncd", edit(0, 2, 1, 0, ""), []int{0, 1, 2, 2, 3, 4}},
		// Bytes within scalars, too.
		{"\U0001f600a\u05d0", edit(0, 2, 0, 3, "XYZ"), []int{0, 1, 2, 3, 4, 7, 8, 9}},
		{"a\U0001f600b", edit(0, 1, 0, 3, "\u6587"), []int{0, 1, 4, 4, 4, 4, 5}},
	}
	for _, x := range tests {
		for at, want := range x.want {
			move(t, x.s, x.e, at, want, api.OK)
		}
		for _, at := range []int{math.MinInt, math.MinInt + 1, -2, -1, len(x.s) + 1, len(x.s) + 2, math.MaxInt - 1, math.MaxInt} {
			move(t, x.s, x.e, at, 0, api.ErrPlace)
		}
	}
}

func TestBetween(t *testing.T) {
	tests := []struct {
		a, b string
		want api.Edit
	}{
		// One text and itself.
		{"", "", edit(0, 0, 0, 0, "")},
		{"abc", "abc", edit(0, 3, 0, 3, "")},
		{"a\n", "a\n", edit(1, 0, 1, 0, "")},
		{mixed, mixed, edit(3, 0, 3, 0, "")},
		// A beginning that both have, an ending, both, neither.
		{"abc", "abd", edit(0, 2, 0, 3, "d")},
		{"abc", "ab", edit(0, 2, 0, 3, "")},
		{"ab", "abc", edit(0, 2, 0, 2, "c")},
		{"abc", "xbc", edit(0, 0, 0, 1, "x")},
		{"abc", "bc", edit(0, 0, 0, 1, "")},
		{"bc", "abc", edit(0, 0, 0, 0, "a")},
		{"abcd", "axyd", edit(0, 1, 0, 3, "xy")},
		{"a\nb\nc", "a\nX\n\nc", edit(1, 0, 1, 1, "X\n")},
		{"a\nb", "ab", edit(0, 1, 1, 0, "")},
		{"ab", "a\nb", edit(0, 1, 0, 1, "\n")},
		{"abc", "xyz", edit(0, 0, 0, 3, "xyz")},
		{"a\nb", "", edit(0, 0, 1, 1, "")},
		{"", "a\nb", edit(0, 0, 0, 0, "a\nb")},
		// Beginning and ending would overlap: the beginning has what both could have.
		{"aa", "aaa", edit(0, 2, 0, 2, "a")},
		{"aaa", "aa", edit(0, 2, 0, 3, "")},
		{"aaa", "a", edit(0, 1, 0, 3, "")},
		{"abab", "ab", edit(0, 2, 0, 4, "")},
		{"ab", "abab", edit(0, 2, 0, 2, "ab")},
		{"aba", "ababa", edit(0, 3, 0, 3, "ba")},
		{"\n\n\n", "\n\n", edit(2, 0, 3, 0, "")},
		{"x\u05d0\u05d0y", "x\u05d0y", edit(0, 2, 0, 3, "")},
		// Scalars that share bytes: the first ones, the last ones, both.
		{"\u05d0", "\u05d1", edit(0, 0, 0, 1, "\u05d1")},
		{"a\u05d0b", "a\u05d1b", edit(0, 1, 0, 2, "\u05d1")},
		{"\u05d0", "\u0610", edit(0, 0, 0, 1, "\u0610")},
		{"a\u05d0b", "a\u0610b", edit(0, 1, 0, 2, "\u0610")},
		{"\u6587", "\u65c7", edit(0, 0, 0, 1, "\u65c7")},
		{"\U0001f600z", "\U0001f640z", edit(0, 0, 0, 2, "\U0001f640")},
		{"\U0001f600", "\U0001f601", edit(0, 0, 0, 2, "\U0001f601")},
		{"\U0001f600", "\u2600", edit(0, 0, 0, 2, "\u2600")},
		{"\u2600", "a\U0001f600", edit(0, 0, 0, 1, "a\U0001f600")},
		{"\u05d0\u05d1", "\u05d0\u05d0\u05d1", edit(0, 1, 0, 1, "\u05d0")},
		{"\U0001f600\U0001f601", "\U0001f600\U0001f600\U0001f601", edit(0, 2, 0, 2, "\U0001f600")},
	}
	for _, x := range tests {
		if e, err := edits.Between(x.a, x.b); e != x.want || err != api.OK {
			t.Errorf("Between(%q, %q): %v, %v", x.a, x.b, e, err)
		}
	}
}

// TestBetweenAllShortTexts holds each against the model, and makes of the first text the second one: E2, P6.2.
func TestBetweenAllShortTexts(t *testing.T) {
	for _, texts := range [][]string{
		textsOf(3, "\n", "a", "\u05d0", "\u0610", "\u2600", "\U0001f600"), // some share their last bytes
		textsOf(6, "a", "\u05d0"),
		textsOf(4, "\U0001f600", "\U0001f601", "\U0001f640"), // these share their first bytes, some also their last ones
	} {
		for _, a := range texts {
			for _, b := range texts {
				e, err := edits.Between(a, b)
				if want := modelBetween(a, b); e != want || err != api.OK {
					t.Fatalf("Between(%q, %q): %v, %v, not %v", a, b, e, err, want)
				}
				if made, err := edits.Apply(a, e); made != b || err != api.OK {
					t.Fatalf("Apply(%q, %v): %q, %v", a, e, made, err)
				}
			}
		}
	}
}

// TestThereAndBack goes between long texts, up to MaxText bytes, and beyond: P6.2.
func TestThereAndBack(t *testing.T) {
	texts := []string{
		"", "a", mixed, strings.Repeat(mixed, 60),
		strings.Repeat("a", api.MaxText-1), strings.Repeat("a", api.MaxText), strings.Repeat("a", api.MaxText+1), strings.Repeat("a", 3*api.MaxText),
		strings.Repeat("\n", api.MaxText), strings.Repeat("\n", api.MaxText) + "a",
		strings.Repeat("\u05d0", api.MaxText/2), strings.Repeat("\u05d0", api.MaxText/2) + "\u05d1",
		strings.Repeat("\U0001f600", api.MaxText/8) + "z" + strings.Repeat("\U0001f600", api.MaxText/8-1),
	}
	for i, a := range texts {
		for j, b := range texts {
			e, err := edits.Between(a, b)
			if err != api.OK {
				t.Fatalf("%d, %d: Between: %v", i, j, err)
			}
			want, wantErr := b, api.OK
			if len(b) > api.MaxText {
				want, wantErr = "", api.ErrFull
			}
			if made, err := edits.Apply(a, e); made != want || err != wantErr {
				t.Errorf("%d, %d: Apply: %d bytes, %v", i, j, len(made), err)
			}
		}
	}
}

// pool are edits that are right in some texts and wrong in others.
var pool = []api.Edit{
	edit(0, 0, 0, 0, "ab"), edit(0, 1, 0, 2, ""), edit(0, 0, 0, 1, "\n"), edit(0, 1, 1, 0, "\U0001f600"), edit(1, 0, 1, 0, "\u05d0"), edit(0, 2, 1, 1, "c\n"),
	edit(0, 0, 0, 2, strings.Repeat("x", api.MaxText-1)), edit(0, 0, 0, 0, "\xff"), edit(0, 1, 0, 0, ""), edit(0, -1, 0, 0, ""),
}

// TestOneByOne makes all lists of up to three edits, and cuts each at each place: P6.3.
func TestOneByOne(t *testing.T) {
	lists := [][]api.Edit{nil}
	for i := 0; i < len(lists); i++ {
		if len(lists[i]) == 3 {
			break
		}
		for _, e := range pool {
			lists = append(lists, append(slices.Clip(lists[i]), e))
		}
	}
	for _, s := range []string{"", "a", "ab", "ab\ncd", "\U0001f600\n\u05d0", "\xff", strings.Repeat("a", api.MaxText+2)} {
		for _, l := range lists {
			all, allErr := edits.Apply(s, l...)
			for n := range len(l) + 1 {
				made, err := edits.Apply(s, l[:n]...)
				if err == api.OK {
					made, err = edits.Apply(made, l[n:]...)
				}
				if made != all || err != allErr {
					t.Fatalf("%.60q, %s: %.60q, %v; by %d first: %.60q, %v", s, brief(l...), all, allErr, n, made, err)
				}
			}
			if want, wantErr := modelApply(s, l...); all != want || allErr != wantErr {
				t.Fatalf("Apply(%.60q, %s): %.60q, %v", s, brief(l...), all, allErr)
			}
		}
	}
}

// TestListStays looks at what is handed in, and at what lies behind it.
func TestListStays(t *testing.T) {
	all := []api.Edit{edit(0, 0, 0, 0, "X"), edit(0, 1, 0, 2, "\n"), edit(9, 9, 9, 9, "\xff"), edit(0, 0, 0, 0, "Y")}
	before := slices.Clone(all)
	apply(t, "abc", all[:2], "X\nbc", api.OK)
	apply(t, "abc", all[:2:2], "X\nbc", api.OK)
	apply(t, "abc", all, "", api.ErrUtf)
	if !slices.Equal(all, before) {
		t.Errorf("Apply changed its edits: %v", all)
	}
}

// answers is what every call answers of two texts, an edit and a number.
type answers struct {
	made               string
	between            api.Edit
	at                 int
	madeErr, betErr, e api.Errno
}

func ask(a, b string, e api.Edit, at int) answers {
	var x answers
	x.made, x.madeErr = edits.Apply(a, e, e)
	x.between, x.betErr = edits.Between(a, b)
	x.at, x.e = edits.Move(a, e, at)
	return x
}

// TestAnswersHangOnArguments asks every call everything, again in the other order, and side by side: P1 and P2.
func TestAnswersHangOnArguments(t *testing.T) {
	type question struct {
		a, b string
		e    api.Edit
		at   int
	}
	var questions []question
	texts := []string{"", "ab", "ab\ncd", mixed, "\xff", strings.Repeat("a", api.MaxText)}
	for _, a := range texts {
		for _, b := range texts {
			for _, e := range pool {
				for _, at := range []int{math.MinInt, -1, 0, 1, len(a), len(a) + 1, math.MaxInt} {
					questions = append(questions, question{a, b, e, at})
				}
			}
		}
	}
	var first []answers
	for _, q := range questions {
		first = append(first, ask(q.a, q.b, q.e, q.at))
	}
	var all sync.WaitGroup
	for range 4 {
		all.Go(func() {
			for i, q := range slices.Backward(questions) {
				if again := ask(q.a, q.b, q.e, q.at); again != first[i] {
					t.Errorf("%.60q, %.60q, %s, %d: another answer", q.a, q.b, brief(q.e), q.at)
				}
			}
		})
	}
	all.Wait()
}
