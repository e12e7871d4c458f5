package value

import (
	"strconv"
	"strings"
	"unicode/utf8"

	"eddy/api"
)

const (
	noneWord = "none"
	// begins holds the bytes with which a value can begin.
	begins = "n-0123456789\"["
)

// Parse reads a text that is one value: on an error the byte's place.
func Parse(s string) (api.Value, int, api.Errno) {
	start := blanks(s)
	v, n, e := Lead(s[start:])
	if e != api.OK {
		return api.Value{}, start + n, e
	}
	end := start + n
	end += blanks(s[end:])
	if end < len(s) {
		return api.Value{}, end, api.ErrValSyntax
	}
	return v, end, api.OK
}

// Lead reads the value at the beginning of s: how many bytes it takes; on an error the byte's place.
func Lead(s string) (v api.Value, n int, e api.Errno) {
	defer func() {
		if caught := recover(); caught != nil {
			f := asFault(caught)
			v, n, e = api.Value{}, f.at, f.err
		}
	}()
	r := reader{text: s}
	v = r.part(0)
	return v, r.at, api.OK
}

// blanks counts the blanks at the beginning of s.
func blanks(s string) int {
	return len(s) - len(strings.TrimLeft(s, " \t"))
}

// reader reads a text from left to right. Its functions answer what they read; where that is nothing of a value, they give up.
type reader struct {
	text  string
	at    int
	parts int
}

// peek gives the next byte. At the end it gives 0, which can stand nowhere either, and at the same place.
func (r *reader) peek() byte {
	if r.at == len(r.text) {
		return 0
	}
	return r.text[r.at]
}

func (r *reader) skipBlanks() {
	r.at += blanks(r.text[r.at:])
}

// part reads a value that stands in depth lists.
func (r *reader) part(depth int) api.Value {
	first := r.peek()
	if strings.IndexByte(begins, first) < 0 {
		giveUp(r.at, api.ErrValSyntax)
	}
	r.parts++
	if r.parts > api.MaxNodes {
		giveUp(r.at, api.ErrValItems)
	}
	switch first {
	case 'n':
		return r.none()
	case '"':
		return r.quoted()
	case '[':
		return r.list(depth)
	}
	return r.integer()
}

func (r *reader) none() api.Value {
	for k := range len(noneWord) {
		if r.peek() != noneWord[k] {
			giveUp(r.at, api.ErrValSyntax)
		}
		r.at++
	}
	return api.Value{}
}

func (r *reader) integer() api.Value {
	start := r.at
	if r.peek() == '0' {
		r.at++
		return api.Value{Kind: api.Int}
	}
	if r.peek() == '-' {
		r.at++
	}
	if !isDigit(r.peek()) || r.peek() == '0' {
		giveUp(r.at, api.ErrValSyntax)
	}
	for isDigit(r.peek()) {
		r.at++
	}
	n, err := strconv.ParseInt(r.text[start:r.at], 10, 64)
	if err != nil {
		giveUp(start, api.ErrValInt)
	}
	return api.Value{Kind: api.Int, Int: n}
}

func isDigit(c byte) bool { return c >= '0' && c <= '9' }

func (r *reader) list(depth int) api.Value {
	if depth >= api.MaxDepth {
		giveUp(r.at, api.ErrValDepth)
	}
	v := api.Value{Kind: api.List}
	r.at++
	r.skipBlanks()
	if r.peek() == ']' {
		r.at++
		return v
	}
items:
	for {
		v.Items = append(v.Items, r.part(depth+1))
		r.skipBlanks()
		switch r.peek() {
		case ']':
			break items
		case ',':
			if len(v.Items) == api.MaxItems {
				giveUp(r.at, api.ErrValItems)
			}
			r.at++
			r.skipBlanks()
			continue items
		}
		giveUp(r.at, api.ErrValSyntax)
	}
	r.at++
	return v
}

func (r *reader) quoted() api.Value {
	start := r.at
	r.at++
	var text []byte
quotes:
	for {
		c := r.peek()
		switch {
		case c == '"':
			break quotes
		case c == '\\':
			text = append(text, r.escaped())
			continue quotes
		case c < 0x20 || c == 0x7f:
			giveUp(r.at, api.ErrValSyntax)
		}
		width := r.width()
		text = append(text, r.text[r.at:r.at+width]...)
		r.at += width
	}
	r.at++
	if len(text) > api.MaxText {
		giveUp(start, api.ErrValText)
	}
	return api.Value{Kind: api.Text, Text: string(text)}
}

// width gives the number of bytes of the rune that stands next.
func (r *reader) width() int {
	c, width := utf8.DecodeRuneInString(r.text[r.at:])
	if c == utf8.RuneError && width == 1 {
		giveUp(r.at, api.ErrValSyntax)
	}
	return width
}

// escaped reads a backslash and what stands for a byte behind it.
func (r *reader) escaped() byte {
	r.at++
	c := r.peek()
	switch c {
	case '"', '\\':
	case 'n':
		c = '\n'
	case 't':
		c = '\t'
	case 'x':
		r.at++
		high := r.hexDigit()
		return high<<4 | r.hexDigit()
	default:
		giveUp(r.at, api.ErrValSyntax)
	}
	r.at++
	return c
}

func (r *reader) hexDigit() byte {
	c := r.peek()
	switch {
	case isDigit(c):
		c -= '0'
	case c >= 'a' && c <= 'f':
		c -= 'a' - 10
	case c >= 'A' && c <= 'F':
		c -= 'A' - 10
	default:
		giveUp(r.at, api.ErrValSyntax)
	}
	r.at++
	return c
}
