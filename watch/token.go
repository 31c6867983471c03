package watch

import (
	"iter"
	"strconv"
	"strings"

	"firetower/api"
)

// The kinds of tokens.
const (
	endToken = iota
	nameToken
	reservedToken
	numberToken
	markToken
)

// token is a part of a source. That of the kind endToken stands behind all others, and has no text.
type token struct {
	kind int
	text string
	at   int // the index of its first byte
}

// fault is the index of the byte from which on a source cannot be read; the functions that read one panic with it.
type fault int

// marks are in an order in which none stands behind one that it begins with.
var marks = [...]string{"!=", "<=", ">=", ";", ",", "(", ")", "=", "<", ">"}

// tokens yields the tokens of a source.
func tokens(source string) iter.Seq[token] {
	return func(yield func(token) bool) {
		at := begin(source, 0)
		for at < len(source) {
			t := tokenAt(source, at)
			if !yield(t) {
				return
			}
			at = begin(source, at+len(t.text))
		}
		yield(token{kind: endToken, at: at})
	}
}

// begin returns where the next token begins; the length of the source if there is none.
func begin(source string, at int) int {
	for at < len(source) {
		switch source[at] {
		case ' ', '\t', '\n':
			at++
		case '#':
			for at < len(source) && source[at] != '\n' {
				at++
			}
		default:
			return at
		}
	}
	return at
}

func tokenAt(source string, at int) token {
	switch {
	case isSmall(source[at]):
		return wordAt(source, at)
	case isDigit(source[at]):
		return numberAt(source, at)
	}
	for _, m := range marks {
		if strings.HasPrefix(source[at:], m) {
			return token{kind: markToken, text: m, at: at}
		}
	}
	panic(fault(at))
}

func wordAt(source string, at int) token {
	n := wordLength(source[at:])
	if n > api.MaxName {
		panic(fault(at))
	}
	text := source[at : at+n]
	if isReserved(text) {
		return token{kind: reservedToken, text: text, at: at}
	}
	return token{kind: nameToken, text: text, at: at}
}

func numberAt(source string, at int) token {
	to := at + 1
	for source[at] != '0' && to < len(source) && isDigit(source[to]) {
		to++
	}
	if n, err := strconv.Atoi(source[at:to]); err != nil || n > api.MaxFact {
		panic(fault(at))
	}
	if to < len(source) && isWordByte(source[to]) {
		panic(fault(to))
	}
	return token{kind: numberToken, text: source[at:to], at: at}
}

func isSmall(b byte) bool { return b >= 'a' && b <= 'z' }

func isDigit(b byte) bool { return b >= '0' && b <= '9' }

func isWordByte(b byte) bool { return isSmall(b) || isDigit(b) }

// wordLength returns how many bytes the word has with which a text begins, however long it is; 0 if there is none.
func wordLength(text string) int {
	if text == "" || !isSmall(text[0]) {
		return 0
	}
	n := 1
	for n < len(text) && isWordByte(text[n]) {
		n++
	}
	return n
}

func isReserved(word string) bool {
	switch word {
	case "watch", "by", "rest", "cancel", "swap", "order", "rank", "if", "and", "or", "not", "on", "from", "to", "every", "except", "cell", "seen", "age", "hour", "free":
		return true
	}
	return false
}

func isName(s string) bool {
	return s != "" && len(s) <= api.MaxName && wordLength(s) == len(s) && !isReserved(s)
}
