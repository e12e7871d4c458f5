package value

import (
	"fmt"
	"math"
	"strings"
	"testing"
	"unicode/utf8"

	"eddy/api"
)

func TestPrintOfKnownValues(t *testing.T) {
	for _, c := range []struct {
		v    api.Value
		want string
	}{
		{none, `none`},
		{num(0), `0`}, {num(7), `7`}, {num(-1), `-1`}, {num(1000), `1000`},
		{num(math.MaxInt64), `9223372036854775807`}, {num(math.MinInt64), `-9223372036854775808`},
		{list(), `[]`}, {api.Value{Kind: api.List, Items: []api.Value{}}, `[]`}, {list(none), `[none]`}, {list(num(1), num(-2), none), `[1, -2, none]`},
		{list(list(), list(list(), num(5)), text("")), `[[], [[], 5], ""]`},
		{list(num(-1), text("a\"\u00e9"), none), "[-1, \"a\\\"\u00e9\", none]"},
		{text(""), `""`}, {text("a b"), `"a b"`}, {text(`"`), `"\""`}, {text(`\`), `"\\"`}, {text(`\n`), `"\\n"`}, {text("\n\t"), `"\n\t"`},
		{text("\x00\x08\x0b\x0c\x0d\x1f"), `"\x00\x08\x0b\x0c\x0d\x1f"`}, {text(" ~\x7f"), `" ~\x7f"`}, {text("'`/"), "\"'`/\""},
		{text("\u0080"), `"\xc2\x80"`}, {text("\u009f"), `"\xc2\x9f"`}, {text("\u00a0"), "\"\u00a0\""}, {text("\u00ad\u200b\u2028"), "\"\u00ad\u200b\u2028\""},
		{text("\ufffd"), "\"\ufffd\""}, {text("\xff"), `"\xff"`}, {text("\xff\ufffd\xfe"), "\"\\xff\ufffd\\xfe\""}, {text("\xef\xbf"), `"\xef\xbf"`},
		{text("\xe2\x82"), `"\xe2\x82"`}, {text("\xe2\x82\u20ac"), "\"\\xe2\\x82\u20ac\""}, {text("\u20ac\x82"), "\"\u20ac\\x82\""}, {text("\xc3a"), `"\xc3a"`},
		{text("\xc0\xaf"), `"\xc0\xaf"`}, {text("\xe0\x80\xaf"), `"\xe0\x80\xaf"`}, {text("\xed\xa0\x80"), `"\xed\xa0\x80"`}, {text("\xf4\x90\x80\x80"), `"\xf4\x90\x80\x80"`},
		{text("\U0010ffff"), "\"\U0010ffff\""}, {text("\U0001f600"), "\"\U0001f600\""}, {text("\ufeff\uffff"), "\"\ufeff\uffff\""},
		{text(long(24)), `"` + long(24) + `"`},
	} {
		if got := Print(c.v); got != c.want {
			t.Errorf("P2.6: Print = %s, want %s", got, c.want)
		}
	}
}

func TestPrintOfEveryByte(t *testing.T) {
	for k := range 256 {
		want := string([]byte{byte(k)})
		switch {
		case k == '"' || k == '\\':
			want = `\` + want
		case k == 10:
			want = `\n`
		case k == 9:
			want = `\t`
		case k < 0x20 || k > 0x7e:
			want = fmt.Sprintf(`\x%02x`, k)
		}
		if got := Print(text("a" + string([]byte{byte(k)}) + "b")); got != `"a`+want+`b"` {
			t.Errorf("P2.6: Print of byte %02x = %s", k, got)
		}
	}
}

func TestPrintOfEveryRune(t *testing.T) {
	for r := rune(0x80); r <= utf8.MaxRune; r++ {
		if r >= 0xd800 && r <= 0xdfff {
			continue
		}
		s := string(r)
		want := s
		if r < 0xa0 {
			want = fmt.Sprintf(`\xc2\x%02x`, r)
		}
		if got := Print(text(s)); got != `"`+want+`"` {
			t.Fatalf("P2.6: Print of %U = %s", r, got)
		}
	}
}

// shown answers what P2.6 asks of a text, byte by byte, without a range over it.
func shown(s string) string {
	var b strings.Builder
	for k := 0; k < len(s); {
		width := 1
		for n := 2; n <= 4 && k+n <= len(s); n++ {
			if utf8.ValidString(s[k:k+n]) && utf8.RuneCountInString(s[k:k+n]) == 1 {
				width = n
			}
		}
		switch c := s[k]; {
		case width > 1 && s[k:k+width] >= "\u00a0":
			b.WriteString(s[k : k+width])
		case width > 1:
			fmt.Fprintf(&b, `\x%02x\x%02x`, c, s[k+1])
		case c == '\n':
			b.WriteString(`\n`)
		case c == '\t':
			b.WriteString(`\t`)
		case c == '"' || c == '\\':
			b.WriteString(`\` + string(rune(c)))
		case c < 0x20 || c > 0x7e:
			fmt.Fprintf(&b, `\x%02x`, c)
		default:
			b.WriteByte(c)
		}
		k += width
	}
	return `"` + b.String() + `"`
}

func TestPrintOfPiecesOfRunes(t *testing.T) {
	pieces := []byte{'a', 0x80, 0x9f, 0xa0, 0xbf, 0xc1, 0xc2, 0xe0, 0xed, 0xef, 0xbd, 0xf0, 0xf4, 0xff}
	for k := range len(pieces) * len(pieces) * len(pieces) * len(pieces) {
		var b [4]byte
		for at := range b {
			b[at] = pieces[k%len(pieces)]
			k /= len(pieces)
		}
		s := string(b[:])
		if got := Print(text(s)); got != shown(s) {
			t.Fatalf("P2.6: Print of % X = %s, want %s", s, got, shown(s))
		}
	}
}
