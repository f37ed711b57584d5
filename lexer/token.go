package lexer

import (
	"strconv"
	"strings"

	"gangsaw/api"
)

// signs are the signs, each of which is a token by itself.
var signs = [...]byte{'(', ')', ',', '=', ':', '<', '>', '+', '/'}

// first returns the token with which a string begins, and its length.
func first(s string) (api.Token, int, api.Errno) {
	switch {
	case s == "":
		return api.Token{}, 0, api.ErrSyntax
	case letter(s[0]):
		return firstWord(s)
	case digit(s[0]) || s[0] == minus:
		return firstNumber(s)
	case s[0] == quote:
		return firstText(s)
	}
	for _, c := range signs {
		if s[0] == c {
			return api.Token{Kind: api.TokSign, Text: s[:1]}, 1, api.OK
		}
	}
	return api.Token{}, 0, api.ErrSyntax
}

func firstWord(s string) (api.Token, int, api.Errno) {
	n := run(s, func(c byte) bool { return wordly(c) || digit(c) })
	if n > api.MaxLabel {
		return api.Token{}, 0, api.ErrName
	}
	return api.Token{Kind: api.TokWord, Text: s[:n]}, n, api.OK
}

func firstNumber(s string) (api.Token, int, api.Errno) {
	digits := strings.TrimPrefix(s, string(minus))
	length := run(digits, digit)
	negative := len(digits) < len(s)
	switch {
	case length == 0:
		return api.Token{}, 0, api.ErrSyntax
	case length < len(digits) && wordly(digits[length]):
		return api.Token{}, 0, api.ErrSyntax
	case digits[0] == '0' && (negative || length > 1):
		return api.Token{}, 0, api.ErrSyntax
	}
	n, err := strconv.ParseInt(digits[:length], 10, 64)
	if err != nil || n > MaxNumber {
		return api.Token{}, 0, api.ErrRange
	}
	if negative {
		n = -n
	}
	return api.Token{Kind: api.TokNumber, N: n}, len(s) - len(digits) + length, api.OK
}

func firstText(s string) (api.Token, int, api.Errno) {
	text, _, closed := strings.Cut(s[1:], string(quote))
	if !closed {
		return api.Token{}, 0, api.ErrSyntax
	}
	if !Label(text) {
		return api.Token{}, 0, api.ErrName
	}
	return api.Token{Kind: api.TokText, Text: text}, len(text) + 2, api.OK
}

// spelling returns how a token is written, if it can be, and an empty string for a kind that there is not.
func spelling(t api.Token) string {
	switch t.Kind {
	case api.TokWord, api.TokSign:
		return t.Text
	case api.TokNumber:
		return strconv.FormatInt(t.N, 10)
	case api.TokText:
		return string(quote) + t.Text + string(quote)
	}
	return ""
}

// run returns the number of bytes in front of a string that fit.
func run(s string, fits func(c byte) bool) int {
	n := 0
	for n < len(s) && fits(s[n]) {
		n++
	}
	return n
}

func blanks(s string) int {
	return run(s, func(c byte) bool { return c == blank })
}

func small(c byte) bool { return c >= 'a' && c <= 'z' }

func letter(c byte) bool { return small(c) || c >= 'A' && c <= 'Z' }

func digit(c byte) bool { return c >= '0' && c <= '9' }

// wordly reports whether a byte other than a digit may stand in a word; no number stands right in front of it.
func wordly(c byte) bool { return letter(c) || c == '_' }
