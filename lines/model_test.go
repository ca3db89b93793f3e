package lines_test

import (
	"math"
	"strings"

	"bolthole/api"
)

// spot is a place that is in a text, and its offset.
type spot struct {
	place api.Place
	at    int
}

// spotsOf are all that a right text has, in order, by the words' own: those of each scalar of each line, and of each line's end.
func spotsOf(s string) []spot {
	var l []spot
	ahead := 0
	for n, line := range strings.Split(s, "\n") {
		unit := 0
		for at, r := range line {
			l = append(l, spot{api.Place{Line: n, Unit: unit}, ahead + at})
			unit += unitsOf(r)
		}
		l = append(l, spot{api.Place{Line: n, Unit: unit}, ahead + len(line)})
		ahead += len(line) + 1 // with its byte 10
	}
	return l
}

func unitsOf(r rune) int {
	if r >= 0x10000 {
		return 2
	}
	return 1
}

// model answers as the chapter says, of a right text.
type model struct {
	lines   []string
	places  map[int]api.Place
	offsets map[api.Place]int
}

func modelOf(s string) model {
	m := model{strings.Split(s, "\n"), map[int]api.Place{}, map[api.Place]int{}}
	for _, x := range spotsOf(s) {
		m.places[x.at] = x.place
		m.offsets[x.place] = x.at
	}
	return m
}

func (m model) line(n int) (string, api.Errno) {
	if n < 0 || n >= len(m.lines) {
		return "", api.ErrPlace
	}
	return m.lines[n], api.OK
}

func (m model) offset(p api.Place) (int, api.Errno) {
	at, ok := m.offsets[p]
	if !ok {
		return 0, api.ErrPlace
	}
	return at, api.OK
}

func (m model) place(at int) (api.Place, api.Errno) {
	p, ok := m.places[at]
	if !ok {
		return api.Place{}, api.ErrPlace
	}
	return p, api.OK
}

// numbers are those that a call may be handed about so many lines, units or bytes.
func numbers(most int) []int {
	l := []int{math.MinInt, math.MinInt + 1, math.MinInt32, -2, -1, most + 1, most + 2, 2*most + 3, 1 << 16, math.MaxInt32, 1 << 32, math.MaxInt - 1, math.MaxInt}
	for n := range most + 1 {
		l = append(l, n)
	}
	return l
}

// longestLine is how many bytes it has.
func (m model) longestLine() int {
	most := 0
	for _, line := range m.lines {
		most = max(most, len(line))
	}
	return most
}
