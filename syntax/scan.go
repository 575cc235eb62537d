package syntax

import (
	"errors"
	"strconv"
	"strings"

	"quarry/api"
)

type kind int

const (
	kindEnd   kind = iota // behind the last token, with no text
	kindFixed             // a word or a sign, which its text alone tells from all others
	kindName
	kindNumber
)

type token struct {
	Part
	kind  kind
	text  string
	value int // of a number
}

// scan gives the tokens of a text, and behind them one for its end.
func scan(text string) ([]token, error) {
	if len(text) > api.MaxText {
		return nil, api.ErrLong
	}
	var tokens []token
	at := 0
	for {
		at += len(leading(text[at:], isBlank))
		if at == len(text) {
			return append(tokens, token{Part: Part{at}}), nil
		}
		t, err := scanOne(text, at)
		if err != nil {
			return nil, err
		}
		tokens = append(tokens, t)
		at += len(t.text)
	}
}

// scanOne gives the token that begins at a byte of the text.
func scanOne(text string, at int) (token, error) {
	t := token{Part: Part{at}}
	rest := text[at:]
	switch {
	case isLetter(rest[0]):
		return t.letters(leading(rest, isLetter))
	case isDigit(rest[0]):
		return t.digits(leading(rest, isDigit))
	}
	t.kind, t.text = kindFixed, leadingSign(rest)
	if t.text == "" {
		return token{}, t.Wrong(api.ErrByte)
	}
	return t, nil
}

func (t token) letters(text string) (token, error) {
	t.kind, t.text = kindName, text
	if isWord(text) {
		t.kind = kindFixed
	} else if len(text) > api.MaxName {
		return token{}, t.Wrong(api.ErrSyntax)
	}
	return t, nil
}

func (t token) digits(text string) (token, error) {
	value, err := strconv.Atoi(text)
	if errors.Is(err, strconv.ErrRange) || value > api.MaxNumber {
		return token{}, t.Wrong(api.ErrNumber)
	}
	t.kind, t.text, t.value = kindNumber, text, value
	return t, nil
}

// IsName tells whether a text is a name.
func IsName(text string) bool {
	return text != "" && len(text) <= api.MaxName && leading(text, isLetter) == text && !isWord(text)
}

// leading is as much of the text's beginning as is of one kind.
func leading(text string, is func(byte) bool) string {
	n := 0
	for n < len(text) && is(text[n]) {
		n++
	}
	return text[:n]
}

// leadingSign is the sign that a text begins with, or nothing.
func leadingSign(text string) string {
	if len(text) >= 2 {
		switch two := text[:2]; two {
		case "<>", "<=", ">=":
			return two
		}
	}
	if strings.IndexByte("(),.+-*=<>", text[0]) < 0 {
		return ""
	}
	return text[:1]
}

func isBlank(c byte) bool { return c == ' ' || c == '\t' || c == '\n' }

func isLetter(c byte) bool { return 'a' <= c && c <= 'z' || c == '_' }

func isDigit(c byte) bool { return '0' <= c && c <= '9' }

func isWord(text string) bool {
	switch text {
	case "and", "as", "by", "count", "from", "max", "min", "order", "over",
		"partition", "preceding", "row_number", "rows", "select", "sum",
		"union", "where", "with":
		return true
	}
	return false
}
