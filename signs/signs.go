// Package signs reads a text sign by sign.
package signs

import (
	"strings"

	"skein/api"
)

// Kind tells signs apart. A sign that means itself has its own text as its kind;
// no such text is one of the four below, so they can't be taken for each other.
type Kind string

const (
	End    Kind = "end" // stands behind the last sign
	Bad    Kind = "bad" // stands where no sign begins
	Number Kind = "number"
	Name   Kind = "name"
)

const (
	marks = `\.=<+-*:()`
	empty = "[]"
)

// Sign is one sign of a text, and where it stands.
type Sign struct {
	Kind  Kind
	Text  string
	Place int
}

// Next is the first sign of text that stands at from or behind it.
func Next(text string, from int) Sign {
	at := from
	for at < len(text) && isBlank(text[at]) {
		at++
	}
	switch {
	case at == len(text):
		return Sign{Kind: End, Place: at}
	case isDigit(text[at]):
		return number(text, at)
	case isLetter(text[at]):
		return word(text, at)
	}
	return mark(text, at)
}

// Behind is the place at which the search for the next sign begins.
func (s Sign) Behind() int { return s.Place + len(s.Text) }

func number(text string, at int) Sign {
	digits := run(text[at:], isDigit)
	if len(digits) > api.MaxDigits {
		return Sign{Kind: Bad, Place: at}
	}
	return Sign{Kind: Number, Text: digits, Place: at}
}

func word(text string, at int) Sign {
	letters := run(text[at:], func(c byte) bool { return isLetter(c) || isDigit(c) })
	if len(letters) > api.MaxName {
		return Sign{Kind: Bad, Place: at}
	}
	return Sign{Kind: kindOfWord(letters), Text: letters, Place: at}
}

func kindOfWord(letters string) Kind {
	switch letters {
	case "let", "in", "if", "then", "else", "head", "tail", "null":
		return Kind(letters)
	}
	return Name
}

func mark(text string, at int) Sign {
	one := text[at : at+1]
	switch {
	case strings.HasPrefix(text[at:], empty):
		return Sign{Kind: empty, Text: empty, Place: at}
	case strings.Contains(marks, one):
		return Sign{Kind: Kind(one), Text: one, Place: at}
	}
	return Sign{Kind: Bad, Place: at}
}

// run is the longest beginning of text that has only bytes that fit.
func run(text string, fits func(byte) bool) string {
	length := 0
	for length < len(text) && fits(text[length]) {
		length++
	}
	return text[:length]
}

func isBlank(c byte) bool { return c == ' ' || c == '\t' || c == '\n' || c == '\r' }

func isDigit(c byte) bool { return '0' <= c && c <= '9' }

func isLetter(c byte) bool { return 'a' <= c && c <= 'z' }
