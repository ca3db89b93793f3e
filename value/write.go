package value

import (
	"strconv"
	"strings"

	"bolthole/api"
)

// hexFigures are those that a byte is written with.
const hexFigures = "0123456789abcdef"

// Write is a value's text.
func Write(v Value) (string, api.Errno) {
	if !Right(v) {
		return "", api.ErrValue
	}
	var b strings.Builder
	write(&b, v)
	return b.String(), api.OK
}

// write appends the text of a right value.
func write(b *strings.Builder, v Value) {
	switch v.Sort {
	case api.Null:
		b.WriteString("null")
	case api.Bool:
		b.WriteString(strconv.FormatBool(v.On))
	case api.Number:
		b.WriteString(strconv.Itoa(v.N))
	case api.Text:
		writeText(b, v.Text)
	case api.List:
		writeList(b, v.List)
	case api.Record:
		writeRecord(b, v.Keys, v.List)
	}
}

func writeList(b *strings.Builder, l []Value) {
	b.WriteByte('[')
	for i, part := range l {
		if i > 0 {
			b.WriteByte(',')
		}
		write(b, part)
	}
	b.WriteByte(']')
}

func writeRecord(b *strings.Builder, keys []string, l []Value) {
	b.WriteByte('{')
	for i, key := range keys {
		if i > 0 {
			b.WriteByte(',')
		}
		writeText(b, key)
		b.WriteByte(':')
		write(b, l[i])
	}
	b.WriteByte('}')
}

// writeText goes byte by byte: none of a scalar's several bytes is one that is written otherwise.
func writeText(b *strings.Builder, s string) {
	b.WriteByte('"')
	for i := range len(s) {
		c := s[i]
		switch {
		case c < ' ':
			b.WriteString(`\u00`)
			b.WriteByte(hexFigures[c>>4])
			b.WriteByte(hexFigures[c&15])
		case c == '"' || c == '\\':
			b.WriteByte('\\')
			b.WriteByte(c)
		default:
			b.WriteByte(c)
		}
	}
	b.WriteByte('"')
}
