package edits_test

import (
	"strings"
	"unicode/utf8"

	"bolthole/api"
)

// placesOf are all places that are in a right text, each with its offset, by layer 5's words: those of each scalar of each line, and of each line's end.
func placesOf(s string) map[api.Place]int {
	places := map[api.Place]int{}
	ahead := 0
	for n, line := range strings.Split(s, "\n") {
		unit := 0
		for at, r := range line {
			places[api.Place{Line: n, Unit: unit}] = ahead + at
			unit++
			if r >= 0x10000 {
				unit++
			}
		}
		places[api.Place{Line: n, Unit: unit}] = ahead + len(line)
		ahead += len(line) + 1 // with its byte 10
	}
	return places
}

// placeOf is the place of a right text that has an offset.
func placeOf(s string, offset int) api.Place {
	for p, at := range placesOf(s) {
		if at == offset {
			return p
		}
	}
	panic("no place has this offset")
}

// modelOne is what the chapter's words make of a text by one edit: its bytes ahead, those put in, and its bytes behind.
func modelOne(s string, e api.Edit) (ahead, text, behind string, err api.Errno) {
	if !utf8.ValidString(s) || !utf8.ValidString(e.Text) {
		return "", "", "", api.ErrUtf
	}
	places := placesOf(s)
	from, ok := places[e.From]
	to, too := places[e.To]
	switch {
	case !ok || !too:
		return "", "", "", api.ErrPlace
	case from > to:
		return "", "", "", api.ErrEdit
	case len(s)-(to-from)+len(e.Text) > api.MaxText:
		return "", "", "", api.ErrFull
	}
	return s[:from], e.Text, s[to:], api.OK
}

// modelApply is what edits make of a text, one by one.
func modelApply(s string, l ...api.Edit) (string, api.Errno) {
	if !utf8.ValidString(s) {
		return "", api.ErrUtf
	}
	for _, e := range l {
		ahead, text, behind, err := modelOne(s, e)
		if err != api.OK {
			return "", err
		}
		s = ahead + text + behind
	}
	return s, api.OK
}

// modelMove is where a byte stands behind an edit.
func modelMove(s string, e api.Edit, at int) (int, api.Errno) {
	ahead, text, behind, err := modelOne(s, e)
	if err != api.OK {
		return 0, err
	}
	if at < 0 || at > len(s) {
		return 0, api.ErrPlace
	}
	if at <= len(ahead) {
		return at, api.OK
	}
	if left := len(s) - at; left <= len(behind) {
		return len(ahead+text+behind) - left, api.OK
	}
	return len(ahead + text), api.OK
}

// modelBetween tries all beginnings that two right texts may share, and then all endings.
func modelBetween(a, b string) api.Edit {
	begin := 0
	for n := range min(len(a), len(b)) + 1 {
		if a[:n] == b[:n] && utf8.ValidString(a[:n]) {
			begin = n
		}
	}
	end := 0
	for n := range min(len(a), len(b)) - begin + 1 {
		if ending := a[len(a)-n:]; strings.HasSuffix(b, ending) && utf8.ValidString(ending) {
			end = n
		}
	}
	return api.Edit{From: placeOf(a, begin), To: placeOf(a, len(a)-end), Text: b[begin : len(b)-end]}
}

// textsOf are all texts of up to so many of some scalars.
func textsOf(most int, scalars ...string) []string {
	all := []string{""}
	last := all
	for range most {
		var longer []string
		for _, s := range last {
			for _, scalar := range scalars {
				longer = append(longer, s+scalar)
			}
		}
		all = append(all, longer...)
		last = longer
	}
	return all
}

// wrongBytes are not right, whatever stands around them.
var wrongBytes = []string{
	"\x80", "\xbf", "\xc0\x80", "\xe0\x80\x8a", "\xed\xa0\x80", "\xed\xa0\xbd\xed\xb8\x80", "\xf0\x8f\xbf\xbf", "\xf4\x90\x80\x80", "\xff",
	"\xc2", "\xe6\x96", "\xf0\x9f\x98", "\xd7\n\x90",
}

func wrongTexts() []string {
	var l []string
	for _, b := range wrongBytes {
		l = append(l, b, "ab"+b, b+"ab", "\U0001f600\n"+b+"\nb")
	}
	return l
}
