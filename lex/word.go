package lex

import (
	"strconv"
	"strings"

	"dapple/api"
)

const (
	// The bytes among which those of words are.
	leastByte = 0x21
	mostByte  = 0x7e

	// What a word of chapter 1 can hold.
	leastInt    = -576460752303423488
	greatestInt = 576460752303423487
)

// isOfWord tells whether a byte may stand in a word.
func isOfWord(b byte) bool {
	switch b {
	case '(', ')', '\'', ';', '"':
		return false
	default:
		return leastByte <= b && b <= mostByte
	}
}

// wordSize is how many bytes the word has with which a text begins.
func wordSize(s string) int {
	size := 0
	for size < len(s) && isOfWord(s[size]) {
		size++
	}
	return size
}

// word is the token of a word, which has at least one byte. The first case that fits holds: a number may be longer than a symbol.
func word(s string) (api.Token, api.Errno) {
	switch {
	case s == ".":
		return api.Token{Kind: api.TokenDot}, api.OK
	case s == "#t":
		return api.Token{Kind: api.TokenTrue}, api.OK
	case s == "#f":
		return api.Token{Kind: api.TokenFalse}, api.OK
	case isNumber(s):
		return number(s)
	case s[0] == '#', beginsAsNumber(s), len(s) > api.MaxName:
		return api.Token{}, api.ErrLexText
	default:
		// Cut out of the source, the text would keep all of it.
		return api.Token{Kind: api.TokenSymbol, Text: strings.Clone(s)}, api.OK
	}
}

// number is the token of a word that isNumber.
func number(s string) (api.Token, api.Errno) {
	// Of digits alone, with or without a sign, nothing can be wrong but that they are too many.
	n, err := strconv.ParseInt(s, 10, 64)
	if err != nil || n < leastInt || n > greatestInt {
		return api.Token{}, api.ErrLexOver
	}
	return api.Token{Kind: api.TokenInt, N: n}, api.OK
}

// isNumber tells whether a word is digits, or '-' and digits.
func isNumber(s string) bool {
	digits := strings.TrimPrefix(s, "-")
	for i := range len(digits) {
		if !isDigit(digits[i]) {
			return false
		}
	}
	return digits != ""
}

// beginsAsNumber tells whether a word begins with a digit, or with '-' and a digit.
func beginsAsNumber(s string) bool {
	digits := strings.TrimPrefix(s, "-")
	return digits != "" && isDigit(digits[0])
}

func isDigit(b byte) bool { return '0' <= b && b <= '9' }
