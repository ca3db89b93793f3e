package value

import (
	"strconv"
	"strings"

	"bolthole/api"
	"bolthole/utf"
)

// The bytes that a value may stand between, those that a number is written with, and those that stand behind a `\` in a text, with what each of them means there.
const (
	blankBytes    = " \t\n\r"
	numberBytes   = "-0123456789"
	escapeLetters = `"\/bfnrt`
	escapeMeaning = "\"\\/\b\f\n\r\t"
)

// The units of a pair: the first is from firstHalf on, the second from secondHalf on and below behindHalves. Each half tells halfBits of what a scalar is beyond firstOfTwo.
const (
	firstHalf    = 0xd800
	secondHalf   = 0xdc00
	behindHalves = 0xe000
	halfBits     = 10
	firstOfTwo   = 0x10000
)

// Read is the value of a text.
func Read(s string) (Value, api.Errno) {
	if !utf.Right(s) {
		return Value{}, api.ErrUtf
	}
	d := deepReader{reader: reader{text: s}}
	v, e := d.value()
	if e != api.OK {
		return Value{}, e
	}
	if !d.ended() {
		return Value{}, api.ErrValue
	}
	return v, api.OK
}

// reader goes through a right text.
type reader struct {
	text string
	at   int
}

// ended tells whether nothing is left.
func (r *reader) ended() bool { return r.at == len(r.text) }

// take goes past s, if that comes next.
func (r *reader) take(s string) bool {
	if !strings.HasPrefix(r.text[r.at:], s) {
		return false
	}
	r.at += len(s)
	return true
}

// takeAll goes past all bytes that come next and are among those of set.
func (r *reader) takeAll(set string) string {
	from := r.at
	for !r.ended() && strings.IndexByte(set, r.text[r.at]) >= 0 {
		r.at++
	}
	return r.text[from:r.at]
}

// number reads one.
func (r *reader) number() (int, bool) {
	s := r.takeAll(numberBytes)
	n, err := strconv.Atoi(s)
	// Atoi also takes needless noughts, and -0.
	if err != nil || !inRange(n) || strconv.Itoa(n) != s {
		return 0, false
	}
	return n, true
}

// quoted reads a text up to the quote that ends it, behind the one that begins it.
func (r *reader) quoted() (string, bool) {
	var b strings.Builder
	for !r.ended() {
		c := r.text[r.at]
		r.at++
		switch {
		case c == '"':
			return b.String(), true
		case c < ' ':
			return "", false
		case c == '\\':
			scalar, ok := r.escape()
			if !ok {
				return "", false
			}
			b.WriteRune(scalar)
		default:
			b.WriteByte(c)
		}
	}
	return "", false
}

// escape reads the scalar that is written behind a `\`.
func (r *reader) escape() (rune, bool) {
	if r.take("u") {
		return r.escapedScalar()
	}
	if r.ended() {
		return 0, false
	}
	i := strings.IndexByte(escapeLetters, r.text[r.at])
	if i < 0 {
		return 0, false
	}
	r.at++
	return rune(escapeMeaning[i]), true
}

// escapedScalar reads the scalar of one unit, or of a pair, behind the first `\u`.
func (r *reader) escapedScalar() (rune, bool) {
	first, ok := r.unit()
	if !ok || first < firstHalf || first >= behindHalves {
		return first, ok
	}
	if first >= secondHalf || !r.take(`\u`) {
		return 0, false
	}
	second, ok := r.unit()
	if !ok || second < secondHalf || second >= behindHalves {
		return 0, false
	}
	return firstOfTwo + (first-firstHalf)<<halfBits + second - secondHalf, true
}

// unit reads four hexadecimal figures.
func (r *reader) unit() (rune, bool) {
	if len(r.text)-r.at < 4 {
		return 0, false
	}
	n, err := strconv.ParseUint(r.text[r.at:r.at+4], 16, 16)
	if err != nil {
		return 0, false
	}
	r.at += 4
	return rune(n), true
}

// deepReader is a reader that knows how many brackets are open.
type deepReader struct {
	reader
	open int
}

// value reads one, with the blanks ahead of it and behind it.
func (d *deepReader) value() (Value, api.Errno) {
	d.takeAll(blankBytes)
	defer d.takeAll(blankBytes)
	switch {
	case d.take("["):
		return d.list()
	case d.take("{"):
		return d.record()
	}
	v, ok := d.plain()
	if !ok {
		return Value{}, api.ErrValue
	}
	return v, api.OK
}

// plain reads a value that can't have parts.
func (r *reader) plain() (Value, bool) {
	switch {
	case r.take("null"):
		return Value{}, true
	case r.take("false"):
		return Value{Sort: api.Bool}, true
	case r.take("true"):
		return Value{Sort: api.Bool, On: true}, true
	case r.take(`"`):
		s, ok := r.quoted()
		return Value{Sort: api.Text, Text: s}, ok
	}
	n, ok := r.number()
	return Value{Sort: api.Number, N: n}, ok
}

// list reads one, behind its first bracket.
func (d *deepReader) list() (Value, api.Errno) {
	v := Value{Sort: api.List}
	e := d.parts("]", func() api.Errno {
		return d.part(&v)
	})
	if e != api.OK {
		return Value{}, e
	}
	return v, api.OK
}

// record reads one, behind its first bracket.
func (d *deepReader) record() (Value, api.Errno) {
	v := Value{Sort: api.Record}
	seen := map[string]int{}
	e := d.parts("}", func() api.Errno {
		key, ok := d.key()
		// Here, not at the record's end: what is wrong first is told.
		if !ok || !firstTime(seen, key) {
			return api.ErrValue
		}
		v.Keys = append(v.Keys, key)
		return d.part(&v)
	})
	if e != api.OK {
		return Value{}, e
	}
	return v, api.OK
}

// parts reads all that stands up to the bracket that ends it, each by a call of read, which takes the blanks around it.
func (d *deepReader) parts(end string, read func() api.Errno) api.Errno {
	if d.open == api.MaxDeep {
		return api.ErrDeep
	}
	d.open++
	defer func() { d.open-- }()
	d.takeAll(blankBytes)
	if d.take(end) {
		return api.OK
	}
	for {
		if e := read(); e != api.OK {
			return e
		}
		if d.take(end) {
			return api.OK
		}
		if !d.take(",") {
			return api.ErrValue
		}
	}
}

// part reads a value, and appends it to the list of v.
func (d *deepReader) part(v *Value) api.Errno {
	p, e := d.value()
	if e != api.OK {
		return e
	}
	v.List = append(v.List, p)
	return api.OK
}

// key reads one, with the mark behind it.
func (r *reader) key() (string, bool) {
	r.takeAll(blankBytes)
	if !r.take(`"`) {
		return "", false
	}
	key, ok := r.quoted()
	if !ok {
		return "", false
	}
	r.takeAll(blankBytes)
	return key, r.take(":")
}
