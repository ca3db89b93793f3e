package frame_test

import (
	"slices"
	"strconv"
	"strings"
	"sync"
	"testing"

	"bolthole/frame"
)

const (
	most     = 1 << 16 // bytes of a body
	longHead = len("Content-Length: 65536\r\n\r\n")
)

// framed is the frame of a body, whether it may be so long or not.
func framed(body string) string {
	return headed(strconv.Itoa(len(body))) + body
}

// headed is a head of a number that is written so, rightly or not.
func headed(figures string) string {
	return "Content-Length: " + figures + "\r\n\r\n"
}

// heads are all heads, each with the size of its body, and all that a head begins with.
var heads = sync.OnceValues(func() (sizes map[string]int, begun map[string]struct{}) {
	sizes, begun = map[string]int{}, map[string]struct{}{}
	for n := range most + 1 {
		s := headed(strconv.Itoa(n))
		sizes[s] = n
		for i := range s {
			begun[s[:i]] = struct{}{}
		}
	}
	return sizes, begun
})

// answers are all that a decoder tells.
type answers struct {
	bodies     []string
	lost, left int
}

func (a answers) same(b answers) bool {
	return slices.Equal(a.bodies, b.bodies) && a.lost == b.lost && a.left == b.left
}

// told is a list of the bodies, shortened, to be looked at.
func (a answers) told() string {
	s := ""
	for _, body := range a.bodies {
		s += strconv.Quote(body[:min(len(body), 20)]) + " of " + strconv.Itoa(len(body)) + ", "
	}
	return s + "lost " + strconv.Itoa(a.lost) + ", left " + strconv.Itoa(a.left)
}

// wordsOf are the words' own: of bytes that begin with a whole frame, its body, and how many bytes it has; else, whether they could still begin one.
func wordsOf(s string) (body string, taken int, whole, could bool) {
	sizes, begun := heads()
	for i := range min(len(s), longHead) + 1 {
		n, ok := sizes[s[:i]]
		if ok && len(s)-i >= n {
			return s[i : i+n], i + n, true, false
		}
		could = could || ok
	}
	if len(s) < longHead {
		_, ok := begun[s]
		could = could || ok
	}
	return "", 0, false, could
}

// wanted are the answers to bytes that come at once, by the words.
func wanted(s string) answers {
	var a answers
	for s != "" {
		body, taken, whole, could := wordsOf(s)
		switch {
		case whole:
			a.bodies = append(a.bodies, body)
			s = s[taken:]
		case could:
			a.left = len(s)
			return a
		default:
			a.lost++
			s = s[1:]
		}
	}
	return a
}

// fed are the answers to pieces.
func fed(pieces ...string) answers {
	d := frame.New()
	var a answers
	for _, s := range pieces {
		a.bodies = append(a.bodies, d.Feed(s)...)
	}
	a.lost, a.left = d.Lost(), d.Left()
	return a
}

// shortened is a text's beginning, to be looked at.
func shortened(s string) string {
	if len(s) > 300 {
		return strconv.Quote(s[:300]) + ".."
	}
	return strconv.Quote(s)
}

// holds holds the answers to pieces against others.
func holds(t *testing.T, want answers, pieces ...string) {
	t.Helper()
	if got := fed(pieces...); !got.same(want) {
		t.Fatalf("%s in %d pieces: %s; should be %s", shortened(strings.Join(pieces, "")), len(pieces), got.told(), want.told())
	}
}

// cut are pieces of so many bytes each, but the last.
func cut(s string, size int) []string {
	var l []string
	for len(s) > size {
		l, s = append(l, s[:size]), s[size:]
	}
	return append(l, s)
}

// holdsAtOnceAndCut holds the answers to bytes that come at once, byte by byte, in two pieces, wherever they are cut, and in others.
func holdsAtOnceAndCut(t *testing.T, want answers, s string) {
	t.Helper()
	holds(t, want, s)
	for _, size := range []int{1, 2, 3, 7, 16, 20, 25} {
		holds(t, want, cut(s, size)...)
	}
	for i := range len(s) {
		holds(t, want, s[:i], "", s[i:])
	}
}

// holdsEachByte feeds bytes one by one, and looks behind each whether it tells just what it should tell then.
func holdsEachByte(t *testing.T, s string) {
	t.Helper()
	d := frame.New()
	var got answers
	for i := range len(s) {
		got.bodies = append(got.bodies, d.Feed(s[i:i+1])...)
		got.lost, got.left = d.Lost(), d.Left()
		if want := wanted(s[:i+1]); !got.same(want) {
			t.Fatalf("%s byte by byte: %s; should be %s", shortened(s[:i+1]), got.told(), want.told())
		}
	}
}

// counter counts on by a rule that looks like chance, so that each run does the same.
type counter uint32

func (c *counter) below(n int) int {
	*c = *c*1664525 + 1013904223
	return int(uint32(*c)>>8) % n
}

// pieces are a text's, of any sizes up to so many bytes.
func (c *counter) pieces(s string, size int) []string {
	var l []string
	for s != "" {
		n := min(c.below(size+1), len(s))
		l, s = append(l, s[:n]), s[n:]
	}
	return l
}

// bytes are up to so many, of those that stand in set.
func (c *counter) bytes(many int, set string) string {
	b := make([]byte, c.below(many+1))
	for i := range b {
		b[i] = set[c.below(len(set))]
	}
	return string(b)
}
