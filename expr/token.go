package expr

import (
	"strconv"
	"strings"

	"eddy/api"
	"eddy/quote"
	"eddy/value"
)

// The kinds of tokens.
const (
	endToken   = iota // the text's end
	valueToken        // a number or a text
	nameToken         // a word or a sign
)

const (
	digits  = "0123456789"
	letters = "abcdefghijklmnopqrstuvwxyz"
)

// token is a piece of a text. Only a nameToken has a name, only a valueToken has a value.
type token struct {
	kind int
	at   int
	name string
	val  api.Value
}

// scanner cuts a text into tokens from left to right.
type scanner struct {
	text string
	at   int
}

func (s *scanner) next() token {
	s.at += span(s.rest(), " ")
	rest := s.rest()
	switch {
	case rest == "":
		return token{at: s.at}
	case span(rest, digits) > 0:
		return s.number()
	case span(rest, letters) > 0:
		return s.word()
	case rest[0] == '"':
		return s.quoted()
	}
	return s.sign()
}

// rest gives what isn't cut yet.
func (s *scanner) rest() string { return s.text[s.at:] }

// cut gives the next bytes, and goes past them.
func (s *scanner) cut(size int) string {
	piece := s.rest()[:size]
	s.at += size
	return piece
}

// span counts the bytes at the beginning of s that are in set.
func span(s, set string) int {
	return len(s) - len(strings.TrimLeft(s, set))
}

func (s *scanner) number() token {
	at := s.at
	n, err := strconv.ParseInt(s.cut(span(s.rest(), digits)), 10, 64)
	if err != nil {
		giveUp(at, api.ErrExprNumber)
	}
	return token{kind: valueToken, at: at, val: intOf(n)}
}

func (s *scanner) word() token {
	at := s.at
	name := s.cut(span(s.rest(), letters))
	if !isWord(name) {
		giveUp(at, api.ErrExprName)
	}
	return token{kind: nameToken, at: at, name: name}
}

func isWord(name string) bool {
	switch name {
	case "key", "val", "acc", "hops", "none", "if", "then", "else", "and", "or", "not":
		return true
	}
	_, ok := findCall(name)
	return ok
}

func (s *scanner) quoted() token {
	at := s.at
	form := s.cut(quote.Size(s.rest()))
	v, _, e := value.Parse(form)
	if e != api.OK || !isPlain(form) {
		giveUp(at, api.ErrExprText)
	}
	return token{kind: valueToken, at: at, val: v}
}

func isPlain(s string) bool {
	for k := range len(s) {
		if s[k] < 0x20 || s[k] > 0x7e {
			return false
		}
	}
	return true
}

func (s *scanner) sign() token {
	at := s.at
	size := signSize(s.rest())
	if size == 0 {
		giveUp(at, api.ErrExprByte)
	}
	return token{kind: nameToken, at: at, name: s.cut(size)}
}

// signSize counts the bytes of the longest sign at the beginning of s; 0, if there is none.
func signSize(s string) int {
	for _, sign := range [...]string{"<=", ">=", "==", "!="} {
		if strings.HasPrefix(s, sign) {
			return len(sign)
		}
	}
	if strings.IndexByte("+-*/%()[],<>", s[0]) >= 0 {
		return 1
	}
	return 0
}
