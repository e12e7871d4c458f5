package scale

import (
	"strconv"
	"strings"
)

const hexDigits = "0123456789abcdef"

// choice writes the expression by which the split chooses a copy. It is worth what Place tells, if the bounds rise.
func choice(bounds []string) string {
	var b strings.Builder
	for k, bound := range bounds {
		if k > 0 {
			b.WriteByte(' ')
		}
		b.WriteString("if key<" + quoted(bound) + "then" + strconv.Itoa(k) + "else")
	}
	b.WriteString(strconv.Itoa(len(bounds)))
	return b.String()
}

// quoted writes a text as an expression may have it: in ASCII alone.
func quoted(text string) string {
	b := []byte{'"'}
	for k := range len(text) {
		switch c := text[k]; {
		case c == '"' || c == '\\':
			b = append(b, '\\', c)
		case c == '\n':
			b = append(b, `\n`...)
		case c == '\t':
			b = append(b, `\t`...)
		case c >= 0x20 && c <= 0x7e:
			b = append(b, c)
		default:
			b = append(b, '\\', 'x', hexDigits[c>>4], hexDigits[c&15])
		}
	}
	return string(append(b, '"'))
}
