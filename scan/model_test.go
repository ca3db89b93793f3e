package scan_test

import (
	"regexp"
	"unicode/utf8"

	"bolthole/api"
)

// passed is the kind of what is no word.
const passed api.Word = -1

// forms are those of the chapter's words, and of what is passed over; of those that are as long, the first counts.
var forms = []struct {
	word api.Word
	form *regexp.Regexp
}{
	{passed, regexp.MustCompile(`^[ \t\r]`)},
	{passed, regexp.MustCompile(`^//[^\n]*`)},
	{api.Key, regexp.MustCompile(`^(func|var|type|struct|return|if|else|for)`)},
	{api.Name, regexp.MustCompile(`^[a-zA-Z_][a-zA-Z_0-9]*`)},
	{api.Figure, regexp.MustCompile(`^[0-9]+`)},
	{api.Quote, regexp.MustCompile(`^"[^"\n]*"`)},
	{api.Mark, regexp.MustCompile(`^(:=|==|!=|<=|>=|&&|\|\|)`)},
	{api.Semi, regexp.MustCompile(`^[;\n]`)},
}

// ending has the words behind which a byte 10 is a Semi, and all Keys.
var ending = regexp.MustCompile(`^([a-zA-Z_0-9]+|".*"|\)|\]|\})$`)

// next is what the words say stands at a text's beginning: its kind, and how many bytes it has.
func next(s string, right bool) (api.Word, int) {
	word, most := api.Mark, 1
	if right {
		_, most = utf8.DecodeRuneInString(s)
	}
	found := 0
	for _, f := range forms {
		if n := len(f.form.FindString(s)); n > found {
			word, most, found = f.word, n, n
		}
	}
	return word, most
}

// mayEnd tells whether a word of a kind, and a text, is one of those behind which a byte 10, or the end, is a Semi.
func mayEnd(word api.Word, text string) bool {
	if word == api.Key {
		return text == "return"
	}
	return ending.MatchString(text)
}

// wordsOf are a program's words, by the chapter's words.
func wordsOf(s string) []api.Token {
	var l []api.Token
	may := false
	right := utf8.ValidString(s)
	for at := 0; at < len(s); {
		word, n := next(s[at:], right)
		t := api.Token{Word: word, Text: s[at : at+n], From: at, To: at + n}
		at += n
		switch {
		case word == passed:
			continue
		case t.Text == "\n" && !may:
			continue
		case t.Text == "\n":
			t.Text = ""
		}
		l = append(l, t)
		may = mayEnd(t.Word, t.Text)
	}
	if may {
		l = append(l, api.Token{Word: api.Semi, From: len(s), To: len(s)})
	}
	return l
}
