package value

import (
	"strconv"
	"unicode/utf8"

	"eddy/api"
)

// firstShown is the least rune beyond ASCII that is printed as itself: the ones below it are controls.
const firstShown rune = 0xA0

// Print tells a value's text.
func Print(v api.Value) string {
	return string(appendPrinted(nil, orNone(v)))
}

// appendPrinted lays the text of a valid value behind b.
func appendPrinted(b []byte, v api.Value) []byte {
	switch v.Kind {
	case api.Int:
		return strconv.AppendInt(b, v.Int, 10)
	case api.Text:
		return appendQuoted(b, v.Text)
	case api.List:
		return appendBracketed(b, v.Items)
	}
	return append(b, noneWord...)
}

func appendBracketed(b []byte, items []api.Value) []byte {
	b = append(b, '[')
	for k, item := range items {
		if k > 0 {
			b = append(b, ", "...)
		}
		b = appendPrinted(b, item)
	}
	return append(b, ']')
}

func appendQuoted(b []byte, text string) []byte {
	b = append(b, '"')
	for at, r := range text {
		// A byte that is no UTF-8 comes as U+FFFD too; its width of one byte tells it from that rune itself.
		_, width := utf8.DecodeRuneInString(text[at:])
		switch {
		case r == '"' || r == '\\':
			b = append(b, '\\', byte(r))
		case r == '\n':
			b = append(b, `\n`...)
		case r == '\t':
			b = append(b, `\t`...)
		case r >= 0x20 && r <= 0x7e, r >= firstShown && width > 1:
			b = append(b, string(r)...)
		default:
			b = appendHex(b, text[at:at+width])
		}
	}
	return append(b, '"')
}

func appendHex(b []byte, raw string) []byte {
	const digits = "0123456789abcdef"
	for k := range len(raw) {
		b = append(b, '\\', 'x', digits[raw[k]>>4], digits[raw[k]&0xf])
	}
	return b
}
