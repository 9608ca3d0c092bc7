package schemas

import (
	"strconv"

	"courier/api"
)

type tokenKind int

const (
	endToken tokenKind = iota
	wrongToken
	nameToken
	numberToken
	openToken
	shutToken
)

type token struct {
	kind tokenKind
	text string
	at   int
}

// scan gives the first token at or behind the place from. The end and a thing
// that is no token are tokens of their own kind, so that every fault of the
// syntax is told by the place of some token.
func scan(text string, from int) token {
	at := from
	for at < len(text) && isBlank(text[at]) {
		at++
	}
	if at == len(text) {
		return token{endToken, "", at}
	}
	end := at
	for end < len(text) && (isLetter(text[end]) || isDigit(text[end])) {
		end++
	}
	if end == at {
		return token{kindOfMark(text[at]), text[at : at+1], at}
	}
	return token{kindOfRun(text[at:end]), text[at:end], at}
}

func kindOfMark(mark byte) tokenKind {
	switch mark {
	case '{':
		return openToken
	case '}':
		return shutToken
	}
	return wrongToken
}

func kindOfRun(run string) tokenKind {
	if isLetter(run[0]) && len(run) <= api.MaxName {
		return nameToken
	}
	if _, ok := numberOf(run); ok {
		return numberToken
	}
	return wrongToken
}

func numberOf(run string) (int, bool) {
	n, err := strconv.Atoi(run)
	return n, err == nil && run[0] != '0' && n <= api.MaxNumber
}

func isBlank(b byte) bool { return b == ' ' || b == '\n' }

func isLetter(b byte) bool { return 'a' <= b && b <= 'z' }

func isDigit(b byte) bool { return '0' <= b && b <= '9' }
