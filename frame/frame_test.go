package frame_test

import (
	"slices"
	"strconv"
	"strings"
	"sync"
	"testing"

	"bolthole/api"
	"bolthole/frame"
)

// bodyLists are lists of bodies: none, one, several, empty ones, ones that hold what a frame is made of, and all lengths at which a head changes.
var bodyLists = [][]string{
	nil,
	{""},
	{"", "", ""},
	{"hi"},
	{"hello", "", "a", "hello"},
	{"C"},
	{"Content-Length: "},
	{"Content-Length: 2\r\n\r\n", "\r\n\r\n"},
	{framed("hi")},
	{framed("hi")[1:], framed("hi")[:19], framed(framed("")) + framed("a")},
	{"\r\n", "\n", "\r", "0", "12"},
	{"\x00", "\xff\xfe", "\xed\xa0\x80", "\u05d0\U0001f600"},
	{`{"jsonrpc":"2.0"}`, `[1,-20]`},
	{of(9), of(10), of(99), of(100)},
	{of(999), of(1000), of(9999), of(10000)},
	{of(most - 1)},
	{of(most)},
	{"a", of(most), "", of(most), "z"},
}

// of is a body of so many bytes, in which frames begin.
func of(size int) string {
	return strings.Repeat("Content-Length: 1\r\n\r\n", size/21+1)[:size]
}

// allFramed are the frames of bodies, one behind the other.
func allFramed(bodies []string) string {
	s := ""
	for _, body := range bodies {
		s += framed(body)
	}
	return s
}

func TestEncode(t *testing.T) {
	for _, bodies := range bodyLists {
		if s, e := frame.Encode(bodies...); s != allFramed(bodies) || e != api.OK {
			t.Errorf("Encode of %s: %s, %v", shortened(strings.Join(bodies, ", ")), shortened(s), e)
		}
	}
}

// TestEncodeWritesItOut has the bytes themselves, one by one.
func TestEncodeWritesItOut(t *testing.T) {
	for want, bodies := range map[string][]string{
		"":                                    {},
		"Content-Length: 2\x0d\x0a\x0d\x0ahi": {"hi"},
		"Content-Length: 0\x0d\x0a\x0d\x0a":   {""},
		"Content-Length: 10\r\n\r\n0123456789Content-Length: 1\r\n\r\n.": {"0123456789", "."},
		"Content-Length: 4\r\n\r\n\xd7\x90\r\n":                          {"\u05d0\r\n"},
	} {
		if s, e := frame.Encode(bodies...); s != want || e != api.OK {
			t.Errorf("Encode(%q): %q, %v", bodies, s, e)
		}
	}
}

func TestEncodeTooLong(t *testing.T) {
	for _, size := range []int{most + 1, most + 2, 99999, 100000, 1 << 17, 1 << 20} {
		long := strings.Repeat("x", size)
		for _, bodies := range [][]string{{long}, {long, "a"}, {"a", long}, {"", long, ""}, {"a", "b", long, long}} {
			if s, e := frame.Encode(bodies...); s != "" || e != api.ErrFrame {
				t.Errorf("Encode of a body of %d bytes: %s, %v", size, shortened(s), e)
			}
		}
	}
}

// TestEncodeLooksAtItsListAlone hands in a list behind whose length more stands.
func TestEncodeLooksAtItsListAlone(t *testing.T) {
	all := []string{"a", "b", strings.Repeat("x", most+1), "d"}
	want := slices.Clone(all)
	if s, e := frame.Encode(all[:2]...); s != allFramed(all[:2]) || e != api.OK {
		t.Errorf("Encode: %q, %v", s, e)
	}
	if s, e := frame.Encode(all[3:]...); s != framed("d") || e != api.OK {
		t.Errorf("Encode: %q, %v", s, e)
	}
	if s, e := frame.Encode(all...); s != "" || e != api.ErrFrame {
		t.Errorf("Encode: %q, %v", s, e)
	}
	if !slices.Equal(all, want) {
		t.Error("Encode changed its list")
	}
}

func TestNew(t *testing.T) {
	d := frame.New()
	if d == nil {
		t.Fatal("New: nil")
	}
	if d.Lost() != 0 || d.Left() != 0 || len(d.Feed("")) != 0 || d.Lost() != 0 || d.Left() != 0 {
		t.Errorf("New: lost %d, left %d", d.Lost(), d.Left())
	}
}

func TestNilDecoder(t *testing.T) {
	var d *frame.Decoder
	for _, s := range []string{"", "x", "C", framed(""), framed("hi") + "Content", "\r\n\r\n", strings.Repeat("x", most+1)} {
		if l := d.Feed(s); len(l) != 0 || d.Lost() != 0 || d.Left() != 0 {
			t.Errorf("Feed(%s) of nil: %q, %d, %d", shortened(s), l, d.Lost(), d.Left())
		}
	}
}

// streams are bytes with what is told of them, written out.
var streams = map[string]answers{
	"":                                    {},
	"x":                                   {lost: 1},
	"hello\r\n\r\n":                       {lost: 9},
	"C":                                   {left: 1},
	"CC":                                  {lost: 1, left: 1},
	"CCCCx":                               {lost: 5},
	"Content-Length:":                     {left: 15},
	"Content-Length: ":                    {left: 16},
	"Content-Length: 0":                   {left: 17},
	"Content-Length: 6553":                {left: 20},
	"Content-Length: 65536\r\n\r":         {left: 24},
	"Content-Length: 65536\r\n\r\n":       {left: 25},
	"Content-Length: 0\r\n\r\n":           {bodies: []string{""}},
	"Content-Length: 2\r\n\r\nhi":         {bodies: []string{"hi"}},
	"Content-Length: 2\r\n\r\nhiContent":  {bodies: []string{"hi"}, left: 7},
	"Content-Length: 3\r\n\r\nhi":         {left: 23},
	"Content-Length: 1\r\n\r\nhi":         {bodies: []string{"h"}, lost: 1},
	"Content-Length: 1\r\n\r\nC":          {bodies: []string{"C"}},
	"Content-Length: 4\r\n\r\nCont":       {bodies: []string{"Cont"}},
	"Content-Length: 12\r\n\r\n012345678": {left: 31},

	// A frame within a body is the body's.
	"Content-Length: 23\r\n\r\nContent-Length: 2\r\n\r\n!": {left: 44},
	"Content-Length: 23\r\n\r\nContent-Length: 2\r\n\r\nhi": {
		bodies: []string{"Content-Length: 2\r\n\r\nhi"},
	},

	// A frame that begins within bytes that are passed over.
	"CContent-Length: 2\r\n\r\nhi":                                     {bodies: []string{"hi"}, lost: 1},
	"ContContent-Length: 2\r\n\r\nhi":                                  {bodies: []string{"hi"}, lost: 4},
	"Content-Length: Content-Length: 2\r\n\r\nhi":                      {bodies: []string{"hi"}, lost: 16},
	"Content-Length: 9Content-Length: 2\r\n\r\nhi":                     {bodies: []string{"hi"}, lost: 17},
	"Content-Length: 65536\r\n\rContent-Length: 2\r\n\r\nhi":           {bodies: []string{"hi"}, lost: 24},
	"Content-Length: 99999\r\n\r\nContent-Length: 2\r\n\r\nhi":         {bodies: []string{"hi"}, lost: 25},
	"Content-Length: 2\r\nContent-Length: 2\r\n\r\nhi":                 {bodies: []string{"hi"}, lost: 19},
	"Content-Length: 2\r\nType: a\r\n\r\nhiContent-Length: 0\r\n\r\n":  {bodies: []string{""}, lost: 32},
	"Type: a\r\nContent-Length: 2\r\n\r\nhi":                           {bodies: []string{"hi"}, lost: 9},
	"Content-Content-Length: 02\r\n\r\nContent-Length: 1\r\n\r\nCtent": {bodies: []string{"C"}, lost: 34},
}

func TestStreams(t *testing.T) {
	for s, want := range streams {
		if a := wanted(s); !a.same(want) {
			t.Fatalf("the words, of %q: %s; should be %s", s, a.told(), want.told())
		}
		holdsAtOnceAndCut(t, want, s)
		holdsEachByte(t, s)
	}
}

// TestGoesOn feeds one decoder all along, and looks behind each piece.
func TestGoesOn(t *testing.T) {
	d := frame.New()
	for i, x := range []struct {
		piece string
		want  answers
	}{
		{"", answers{}},
		{"Content", answers{left: 7}},
		{"", answers{left: 7}},
		{"-Length: 1", answers{left: 17}},
		{"2\r\n\r\nabc", answers{left: 25}},
		{"defghijk", answers{left: 33}},
		{"lC", answers{bodies: []string{"abcdefghijkl"}, left: 1}},
		{"C", answers{lost: 1, left: 1}},
		{"", answers{lost: 1, left: 1}},
		{"xyz", answers{lost: 5}},
		{framed("") + framed("a") + framed("")[:20], answers{bodies: []string{"", "a"}, lost: 5, left: 20}},
		{"\n\n", answers{bodies: []string{""}, lost: 6}},
		{headed("70000"), answers{lost: 31}},
		{"", answers{lost: 31}},
	} {
		got := answers{bodies: d.Feed(x.piece), lost: d.Lost(), left: d.Left()}
		if !got.same(x.want) {
			t.Fatalf("piece %d, %q: %s; should be %s", i, x.piece, got.told(), x.want.told())
		}
	}
}

// wrongHeads are heads that aren't any, each for one reason.
var wrongHeads = map[string]string{
	"no number":                       headed(""),
	"a number that is a blank":        headed(" "),
	"a blank ahead of the number":     headed(" 2"),
	"a blank behind the number":       headed("2 "),
	"a needless nought":               headed("02"),
	"noughts":                         headed("00"),
	"many noughts":                    headed(strings.Repeat("0", 100) + "2"),
	"noughts ahead of the greatest":   headed("065536"),
	"a minus":                         headed("-2"),
	"the least number below 0":        headed("-0"),
	"a plus":                          headed("+2"),
	"a point":                         headed("2.0"),
	"a number of another base":        headed("0x2"),
	"a line between figures":          headed("1_0"),
	"a letter":                        headed("a"),
	"a letter behind a figure":        headed("2a"),
	"the byte ahead of the figures":   headed("/"),
	"the byte behind the figures":     headed(":"),
	"a figure of another script":      headed("\u0662"),
	"a number one too great":          headed("65537"),
	"a number ten too great":          headed("65546"),
	"a number too great":              headed("70000"),
	"a number of six figures":         headed("100000"),
	"the greatest, and a nought":      headed("655360"),
	"2 in 32 bits":                    headed("4294967298"),
	"2 in 64 bits":                    headed("18446744073709551618"),
	"the greatest of 63 bits":         headed("9223372036854775807"),
	"one more than that":              headed("9223372036854775808"),
	"2 in 128 bits":                   headed("340282366920938463463374607431768211458"),
	"very many figures":               headed(strings.Repeat("9", 1000)),
	"a 2, and very many noughts":      headed("2" + strings.Repeat("0", 1000)),
	"small letters":                   "content-length: 2\r\n\r\n",
	"a small letter":                  "content-Length: 2\r\n\r\n",
	"another small letter":            "Content-length: 2\r\n\r\n",
	"large letters":                   "CONTENT-LENGTH: 2\r\n\r\n",
	"no blank":                        "Content-Length:2\r\n\r\n",
	"two blanks":                      "Content-Length:  2\r\n\r\n",
	"another blank":                   "Content-Length:\t2\r\n\r\n",
	"a blank ahead of the colon":      "Content-Length : 2\r\n\r\n",
	"no colon":                        "Content-Length 2\r\n\r\n",
	"no minus":                        "ContentLength: 2\r\n\r\n",
	"no first letter":                 "ontent-Length: 2\r\n\r\n",
	"no 13":                           "Content-Length: 2\n\r\n",
	"no 10":                           "Content-Length: 2\r\r\n",
	"no second 13":                    "Content-Length: 2\r\n\n",
	"no second 10":                    "Content-Length: 2\r\n\r",
	"no 13 at all":                    "Content-Length: 2\n\n",
	"no 10 at all":                    "Content-Length: 2\r\r",
	"the other way round":             "Content-Length: 2\n\r\n\r",
	"one end of a line":               "Content-Length: 2\r\n",
	"a blank behind the end":          "Content-Length: 2\r\n \r\n",
	"a line between":                  "Content-Length: 2\r\nContent-Type: a\r\n\r\n",
	"nothing behind the number":       "Content-Length: 2",
	"nothing behind the greatest":     "Content-Length: 65536",
	"two that begin":                  "Content-Length: 2Content-Length: ",
	"another that begins in its end":  "Content-Length: 2\r\nContent-Length: 3\r\n",
	"two numbers":                     headed("2\r\n2"),
	"a wide byte ahead of the figure": headed("\xef\xbb\xbf2"),
}

// TestWrongHeads: all of a wrong head is passed over, and the frame behind it is told.
func TestWrongHeads(t *testing.T) {
	for why, head := range wrongHeads {
		t.Run(why, func(t *testing.T) {
			holdsAtOnceAndCut(t, answers{bodies: []string{"ab"}, lost: len(head) + 3}, head+"zab"+framed("ab"))
			holdsAtOnceAndCut(t, answers{bodies: []string{"first", "ab"}, lost: 2*len(head) + 2}, framed("first")+head+"x"+head+"y"+framed("ab"))
			holdsEachByte(t, head+"xx"+framed("ab")+head)
		})
	}
}

// TestEachNumber feeds a head of each number up to one more than has a frame, and beyond.
func TestEachNumber(t *testing.T) {
	for n := range 110000 {
		s := headed(strconv.Itoa(n))
		want := answers{left: len(s)}
		if n == 0 {
			want = answers{bodies: []string{""}}
		} else if n > most {
			want = answers{lost: len(s)}
		}
		holds(t, want, s)
		holds(t, want, s[:17], s[17:])
		holds(t, answers{lost: len(s) + 1}, headed("0"+strconv.Itoa(n)))
	}
}

// TestEachByteOfAHead puts each byte in the place of each of a head's, and between them; takes each of them out; and puts a frame in the place of it.
func TestEachByteOfAHead(t *testing.T) {
	whole := framed("hi")
	for at := range whole {
		for n := range 256 {
			b := string([]byte{byte(n)})
			for _, s := range []string{whole[:at] + b + whole[at+1:], whole[:at] + b + whole[at:]} {
				s += framed("behind")
				want := wanted(s)
				holds(t, want, s)
				holds(t, want, cut(s, 1)...)
			}
		}
		for _, s := range []string{whole[:at] + whole[at+1:], whole[:at] + whole + whole[at:], whole[:at] + whole, whole[at:]} {
			s += framed("behind")
			holdsAtOnceAndCut(t, wanted(s), s)
			holdsEachByte(t, s)
		}
	}
}

// TestAllShortStreams goes through all streams of up to five words that a frame is made of.
func TestAllShortStreams(t *testing.T) {
	words := []string{"Content-Length: ", "Con", "C", "0", "1", "10", "6553", "\r\n\r\n", "\r\n", "\n", "x", framed("C")}
	l := []string{""}
	for range 5 {
		var longer []string
		for _, s := range l {
			for _, w := range words {
				longer = append(longer, s+w)
			}
		}
		for _, s := range longer {
			want := wanted(s)
			holds(t, want, s)
			holds(t, want, cut(s, 1)...)
		}
		l = longer
	}
}

// TestGreatBodies feeds bodies of as many bytes as a frame may have, and heads of one more.
func TestGreatBodies(t *testing.T) {
	body := of(most)
	s := framed(body)
	for _, size := range []int{1, 2, 1000, most, len(s) - 1, len(s)} {
		holds(t, answers{bodies: []string{body, "a", body}}, cut(s+framed("a")+s, size)...)
		holds(t, answers{left: len(s) - 1}, cut(s[:len(s)-1], size)...)
		holds(t, answers{bodies: []string{body}, left: 1}, cut(s+"C", size)...)
		// Of the frames that the body is made of, all are told but the one that is cut off.
		long := wanted(framed(body + "z"))
		if len(long.bodies) < 1000 || long.lost < longHead {
			t.Fatalf("the words, of a body that is too long: lost %d, left %d", long.lost, long.left)
		}
		holds(t, long, cut(framed(body+"z"), size)...)
	}
	holds(t, answers{bodies: []string{"a"}, lost: longHead + most + 1}, framed(strings.Repeat("x", most+1))+framed("a"))
}

// TestLastByte: a body is told with its last byte, not ahead of it.
func TestLastByte(t *testing.T) {
	for _, size := range []int{1, 2, 9, 10, 100, most} {
		body := of(size)
		s := framed(body)
		d := frame.New()
		if l := d.Feed(s[:len(s)-1]); len(l) != 0 || d.Left() != len(s)-1 || d.Lost() != 0 {
			t.Errorf("all but the last of %d: %d bodies, %d, %d", size, len(l), d.Lost(), d.Left())
		}
		if l := d.Feed(s[len(s)-1:]); !slices.Equal(l, []string{body}) || d.Left() != 0 || d.Lost() != 0 {
			t.Errorf("the last of %d: %d bodies, %d, %d", size, len(l), d.Lost(), d.Left())
		}
	}
}

// noC are bytes that hold no C, as much as they may look like a frame.
var noC = []string{
	"x", "\x00", "\n", "\r\n\r\n", "content-length: 2\r\n\r\nhi", "ontent-Length: 2\r\n\r\nhi", "c", "B", "D", "\u0421\u03f9",
	"0", "65537", " ", "\xff\xfe\x80", "\xc3", strings.Repeat("ontent-Length: 0\r\n\r\n", 50), strings.Repeat("x", most+1),
}

// TestThereAndBack: bodies that are encoded are told, alone, and behind bytes that hold no C.
func TestThereAndBack(t *testing.T) {
	c := counter(1)
	for _, bodies := range bodyLists {
		s, _ := frame.Encode(bodies...)
		holds(t, answers{bodies: bodies}, s)
		for _, ahead := range noC {
			want := answers{bodies: bodies, lost: len(ahead)}
			holds(t, want, ahead+s)
			holds(t, want, ahead, s)
			holds(t, want, c.pieces(ahead+s, 2000)...)
		}
	}
}

// TestEachByteAhead: each byte but a C is passed over at once.
func TestEachByteAhead(t *testing.T) {
	for n := range 256 {
		b := string([]byte{byte(n)})
		if b == "C" {
			continue
		}
		holds(t, answers{lost: 1}, b)
		holds(t, answers{bodies: []string{"hi"}, lost: 3}, b+b+b+framed("hi"))
	}
}

// anyStream is made of frames, of heads that are cut off or wrong, and of other bytes.
func (c *counter) anyStream() string {
	s := ""
	for range c.below(8) {
		body := c.bytes(40, "Content-Length: 0123\r\nxyz\x00\xff")
		whole := framed(body)
		switch at := c.below(len(whole)); c.below(6) {
		case 0:
			s += whole[:at]
		case 1:
			s += whole[at:]
		case 2:
			s += whole[:at] + c.bytes(2, "C0\r\nx") + whole[at:]
		case 3:
			s += body
		default:
			s += whole
		}
	}
	return s
}

// TestHoweverItIsCut feeds streams in many pieces.
func TestHoweverItIsCut(t *testing.T) {
	c := counter(2)
	for range 3000 {
		s := c.anyStream()
		want := wanted(s)
		holds(t, want, s)
		holds(t, want, cut(s, 1)...)
		for _, size := range []int{1, 2, 5, 20, 60, 300} {
			holds(t, want, c.pieces(s, size)...)
		}
	}
	for range 200 {
		holdsEachByte(t, c.anyStream())
	}
}

// TestAnswersAreNewMemory writes into what is answered, and looks at all else.
func TestAnswersAreNewMemory(t *testing.T) {
	d := frame.New()
	first := d.Feed(framed("one") + framed("two") + "Content-Len")
	kept := slices.Clone(first)
	second := d.Feed("gth: 5\r\n\r\nthreexx" + framed("four") + framed("five"))
	if !slices.Equal(first, kept) || !slices.Equal(second, []string{"three", "four", "five"}) {
		t.Fatalf("%q, %q", first, second)
	}
	first = append(first[:0], "spoilt", "spoilt", "behind")
	third := d.Feed(framed("six"))
	if !slices.Equal(second, []string{"three", "four", "five"}) || !slices.Equal(third, []string{"six"}) || first[2] != "behind" {
		t.Errorf("%q, %q, %q", first, second, third)
	}
}

// TestPiecesStay feeds bytes out of memory that is then written over.
func TestPiecesStay(t *testing.T) {
	all := framed("hello") + "xx" + framed(of(100)) + framed("")
	b := make([]byte, 7)
	d := frame.New()
	var got answers
	for _, piece := range cut(all, len(b)) {
		n := copy(b, piece)
		got.bodies = append(got.bodies, d.Feed(string(b[:n]))...)
		clear(b)
	}
	got.lost, got.left = d.Lost(), d.Left()
	if want := wanted(all); !got.same(want) {
		t.Errorf("%s; should be %s", got.told(), want.told())
	}
}

// TestDecodersApart feeds several decoders by turns: none tells what another was fed.
func TestDecodersApart(t *testing.T) {
	streams := []string{framed("one") + framed(""), "xxCont" + framed("two"), framed(of(30)) + "Content-Length: 7", ""}
	ds := make([]*frame.Decoder, len(streams))
	got := make([]answers, len(streams))
	for i := range ds {
		ds[i] = frame.New()
	}
	for at := range 100 {
		for i, s := range streams {
			if at < len(s) {
				got[i].bodies = append(got[i].bodies, ds[i].Feed(s[at:at+1])...)
			}
		}
	}
	for i, s := range streams {
		got[i].lost, got[i].left = ds[i].Lost(), ds[i].Left()
		if want := wanted(s); !got[i].same(want) {
			t.Errorf("%q by turns: %s; should be %s", s, got[i].told(), want.told())
		}
	}
}

// TestAnswersHangOnArguments asks again, in the other order, and side by side: P1 and P2.
func TestAnswersHangOnArguments(t *testing.T) {
	c := counter(3)
	var all [][]string
	var first []answers
	for range 300 {
		pieces := c.pieces(c.anyStream(), 30)
		all, first = append(all, pieces), append(first, fed(pieces...))
	}
	var done sync.WaitGroup
	for range 4 {
		done.Go(func() {
			for i, pieces := range slices.Backward(all) {
				if again := fed(pieces...); !again.same(first[i]) {
					t.Errorf("%q: %s, then %s", pieces, first[i].told(), again.told())
				}
				a, e := frame.Encode(pieces...)
				b, f := frame.Encode(pieces...)
				if a != b || e != f || a != allFramed(pieces) {
					t.Errorf("Encode(%q): %q, %v, then %q, %v", pieces, a, e, b, f)
				}
			}
		})
	}
	done.Wait()
}

// TestAskingChangesNothing asks what was passed over, and what is left, between all pieces.
func TestAskingChangesNothing(t *testing.T) {
	c := counter(4)
	for range 300 {
		s := c.anyStream()
		d := frame.New()
		var got answers
		for _, piece := range c.pieces(s, 20) {
			got.bodies = append(got.bodies, d.Feed(piece)...)
			if d.Lost() != d.Lost() || d.Left() != d.Left() {
				t.Fatalf("of %q, Lost or Left changes", s)
			}
		}
		got.lost, got.left = d.Lost(), d.Left()
		if want := wanted(s); !got.same(want) {
			t.Fatalf("%q: %s; should be %s", s, got.told(), want.told())
		}
	}
}
