// Package utf is layer 1: see shared/doc/01-utf.md.
package utf

import (
	"unicode/utf8"

	"bolthole/api"
)

// firstOfTwo is the first scalar that has two units.
const firstOfTwo = 0x10000

// Right tells whether a text is.
func Right(s string) bool { return utf8.ValidString(s) }

// Units is how many all texts have.
func Units(l ...string) (int, api.Errno) {
	sum := 0
	for _, s := range l {
		// Each text by itself: two that are wrong may be right when joined.
		if !Right(s) {
			return 0, api.ErrUtf
		}
		for _, r := range s {
			sum += width(r)
		}
	}
	return sum, api.OK
}

// Offset is how many bytes stand ahead of a unit.
func Offset(s string, unit int) (int, api.Errno) {
	if !Right(s) {
		return 0, api.ErrUtf
	}
	ahead := 0
	for at, r := range s {
		if ahead == unit {
			return at, api.OK
		}
		ahead += width(r)
	}
	// No scalar begins at the end, so the loop doesn't come there.
	if ahead == unit {
		return len(s), api.OK
	}
	return 0, api.ErrUnit
}

// Unit is how many units stand ahead of a byte.
func Unit(s string, at int) (int, api.Errno) {
	if !Right(s) {
		return 0, api.ErrUtf
	}
	ahead := 0
	for begin, r := range s {
		if begin == at {
			return ahead, api.OK
		}
		ahead += width(r)
	}
	if at == len(s) {
		return ahead, api.OK
	}
	return 0, api.ErrUnit
}

// Cut is the longest beginning of so many bytes.
func Cut(s string, most int) string {
	if !Right(s) {
		return ""
	}
	if most >= len(s) {
		return s
	}
	end := 0
	for begin := range s {
		if begin > most {
			break
		}
		end = begin
	}
	return s[:end]
}

// width is how many units a scalar has.
func width(r rune) int {
	if r >= firstOfTwo {
		return 2
	}
	return 1
}
