package expr_test

import (
	"strings"
	"testing"

	"eddy/api"
)

func TestBlanksStandAheadOfTokens(t *testing.T) {
	for _, s := range []string{"1", " 1", "   1   ", "1 + 2", "1+2", " 1  +  2 ", "len ( 1 )", "[ ]", "[ 1 , 2 ]", "not  not 1"} {
		wantNoFault(t, "P3.1", s)
	}
	for _, blank := range []string{"\t", "\n", "\r", "\v", "\x00", "\u00a0", "\u2003"} {
		wantFault(t, "P3.1", "1 "+blank+"+ 2", 2, api.ErrExprByte)
		wantFault(t, "P3.1", blank+"1", 0, api.ErrExprByte)
	}
}

func TestBytesThatBeginNoToken(t *testing.T) {
	for c := range 256 {
		b := string([]byte{byte(c)})
		if strings.Contains(" 0123456789abcdefghijklmnopqrstuvwxyz\"+-*/%()[],<>", b) {
			continue
		}
		wantFault(t, "P3.1", b, 0, api.ErrExprByte)
		wantFault(t, "P3.1", "  1"+b, 3, api.ErrExprByte)
		wantFault(t, "P3.1", "key"+b+" foo", 3, api.ErrExprByte)
	}
}

func TestSignsAreTheLongest(t *testing.T) {
	for _, s := range []string{"1<2", "1<=2", "1>2", "1>=2", "1==2", "1!=2", "1<-2", "1==-2", "1--2", "1---2", "--1", "1*-2", "1/-2", "1%-2", "1+-2"} {
		wantNoFault(t, "P3.1", s)
	}
	wantFault(t, "P3.1", "1=2", 1, api.ErrExprByte)
	wantFault(t, "P3.1", "1!2", 1, api.ErrExprByte)
	wantFault(t, "P3.1", "1= =2", 1, api.ErrExprByte)
	wantFault(t, "P3.1", "1! =2", 1, api.ErrExprByte)
	wantFault(t, "P3.1", "1===2", 3, api.ErrExprByte)
	wantFault(t, "P3.1", "1!==2", 3, api.ErrExprByte)
	wantFault(t, "P3.1", "1<==2", 3, api.ErrExprByte)
	wantFault(t, "P3.1", "1< =2", 3, api.ErrExprByte)
	wantFault(t, "P3.1", "1=<2", 1, api.ErrExprByte)
	wantFault(t, "P3.1", "1=>2", 1, api.ErrExprByte)
	wantFault(t, "P3.1", "1<>2", 2, api.ErrExprToken)
	wantFault(t, "P3.1", "1<<2", 2, api.ErrExprToken)
	wantFault(t, "P3.1", "1>=>2", 3, api.ErrExprToken)
	wantFault(t, "P3.1", "1<=>2", 3, api.ErrExprToken)
	wantFault(t, "P3.1", "1=", 1, api.ErrExprByte)
	wantFault(t, "P3.1", "!", 0, api.ErrExprByte)
}

func TestNumbers(t *testing.T) {
	zeros := strings.Repeat("0", 100-19)
	for s, n := range map[string]int64{
		"0": 0, "00": 0, "000": 0, strings.Repeat("0", 100): 0, "7": 7, "007": 7, "10": 10, "1234567890": 1234567890,
		"9223372036854775806": 1<<63 - 2, "9223372036854775807": 1<<63 - 1, "09223372036854775807": 1<<63 - 1, zeros + "9223372036854775807": 1<<63 - 1,
	} {
		wantValue(t, "P3.1", s, api.Record{}, none, num(n))
	}
	for _, s := range []string{"9223372036854775808", "009223372036854775808", zeros + "9223372036854775808", "9223372036854775810", "10000000000000000000", "18446744073709551616", "18446744073709551617", strings.Repeat("9", 100), "1" + strings.Repeat("0", 99)} {
		wantFault(t, "P3.1", s, 0, api.ErrExprNumber)
	}
	wantFault(t, "P3.1", "-9223372036854775808", 1, api.ErrExprNumber)
	wantFault(t, "P3.1", "1 +  0009223372036854775808", 5, api.ErrExprNumber)
	wantFault(t, "P3.1", "9223372036854775808foo", 0, api.ErrExprNumber)
	wantFault(t, "P3.1", "1.5", 1, api.ErrExprByte)
	wantFault(t, "P3.1", "1_000", 1, api.ErrExprByte)
	wantFault(t, "P3.1", "0x1f", 1, api.ErrExprName)
	wantFault(t, "P3.1", "+1", 0, api.ErrExprToken)
}

func TestWords(t *testing.T) {
	for _, s := range []string{"key", "val", "acc", "hops", "none", "if 1 then 2 else 3", "1 and 2", "1 or 2", "not 1",
		"len(1)", "kind(1)", "int(1)", "text(1)", "sum(1)", "sort(1)", "rev(1)", "at(1,2)", "take(1,2)", "drop(1,2)", "min(1,2)", "max(1,2)", "has(1,2)", "put(1,2,3)"} {
		wantNoFault(t, "P3.1", s)
	}
	for _, s := range []string{"a", "foo", "keys", "ke", "vals", "nones", "non", "nil", "true", "iff", "i", "lens", "le", "length", "sorted", "andor", "notkey", "elseif", "thenelse", "xor", "abs", "keyval", "z"} {
		wantFault(t, "P3.1", s, 0, api.ErrExprName)
		wantFault(t, "P3.1", "  "+s+"(1)", 2, api.ErrExprName)
		wantFault(t, "P3.1", "1 "+s, 2, api.ErrExprName)
	}
	for _, s := range []string{"Key", "KEY", "If 1 then 2 else 3", "Len(1)"} {
		wantFault(t, "P3.1", s, 0, api.ErrExprByte)
	}
	wantFault(t, "P3.1", "kEy", 0, api.ErrExprName)
	wantFault(t, "P3.1", "keY", 0, api.ErrExprName)
	wantFault(t, "P3.1", "key_", 3, api.ErrExprByte)
	wantFault(t, "P3.1", "_key", 0, api.ErrExprByte)
}

func TestNumbersAndWordsThatTouch(t *testing.T) {
	for s, n := range map[string]int64{"1and1": 1, "1and0": 0, "0or2": 1, "not0": 1, "not1and1": 0, "if1then2else3": 2, "if0then2else3": 3, "00and1": 0, "1or1and0": 1} {
		wantValue(t, "P3.1", s, api.Record{}, none, num(n))
	}
	wantNoFault(t, "P3.1", "--1")
	wantNoFault(t, "P3.1", `"a"and"b"`)
	wantFault(t, "P3.1", "and1", 0, api.ErrExprToken)
	wantFault(t, "P3.1", "1and", 4, api.ErrExprToken)
	wantFault(t, "P3.1", "key1", 3, api.ErrExprToken)
	wantFault(t, "P3.1", "1key", 1, api.ErrExprToken)
	wantFault(t, "P3.1", "1foo", 1, api.ErrExprName)
	wantFault(t, "P3.1", "foo1", 0, api.ErrExprName)
	wantFault(t, "P3.1", "1 2", 2, api.ErrExprToken)
	wantFault(t, "P3.1", `"a""b"`, 3, api.ErrExprToken)
	wantFault(t, "P3.1", `1"a"`, 1, api.ErrExprToken)
	wantFault(t, "P3.1", `"a"1`, 3, api.ErrExprToken)
	wantFault(t, "P3.1", `not1key`, 4, api.ErrExprToken)
}

func TestTexts(t *testing.T) {
	for s, want := range map[string]string{
		`""`: "", `" "`: " ", `"a"`: "a", `"  a  "`: "  a  ", `"~!#[]{}"`: "~!#[]{}", `"if 1 then"`: "if 1 then", `"\""`: `"`, `"\\"`: `\`, `"\\\\"`: `\\`, `"\\\""`: `\"`, `"\"\\"`: `"\`,
		`"\n\t"`: "\n\t", `"\x41\x4a\x4A"`: "AJJ", `"\xff\xFF\x00\x80"`: "\xff\xff\x00\x80", `"\xc3\xa9"`: "\u00e9",
		`"` + long(24) + `"`: long(24), `"` + strings.Repeat(`\x00`, 24) + `"`: strings.Repeat("\x00", 24), `"` + strings.Repeat(`\\`, 24) + `"`: strings.Repeat(`\`, 24),
	} {
		wantValue(t, "P3.1", s, api.Record{}, none, text(want))
		wantValue(t, "P3.1", s+" ", api.Record{}, none, text(want))
	}
	for _, s := range []string{
		`"`, `"a`, `"a `, `"\"`, `"\\\"`, `"a\"b`, `"\`, `"\\`, `" 1 + 2`, // never closed
		`"\q"`, `"\N"`, `"\0"`, `"\'"`, `"\a"`, `"\u00e9"`, `"\x"`, `"\x4"`, `"\x4g"`, `"\xg4"`, `"\X41"`, `"\ "`, `"a\`, `"\x4`,
		"\"\t\"", "\"\n\"", "\"\x00\"", "\"\x1f\"", "\"\x7f\"", "\"\x80\"", "\"\xff\"", "\"\u00e9\"", "\"a\u20acb\"", "\"\U0001f600\"",
		`"` + long(25) + `"`, `"` + strings.Repeat(`\n`, 25) + `"`,
	} {
		wantFault(t, "P3.1", s, 0, api.ErrExprText)
		wantFault(t, "P3.1", "1 + "+s, 4, api.ErrExprText)
		// Of two faults the token's own one comes first: neither could a text stand here.
		wantFault(t, "P3.3", "key "+s, 4, api.ErrExprText)
	}
}

func TestTextsEndAtTheirQuote(t *testing.T) {
	// What stands behind the closing quote is another token.
	wantFault(t, "P3.1", `"a"foo`, 3, api.ErrExprName)
	wantFault(t, "P3.1", `"\\"foo`, 4, api.ErrExprName)
	wantFault(t, "P3.1", `"\\\\"foo"`, 6, api.ErrExprName)
	wantFault(t, "P3.1", `"\\\"foo"bar`, 9, api.ErrExprName)
	wantFault(t, "P3.1", `"\"foo"bar`, 7, api.ErrExprName)
	wantFault(t, "P3.1", `"a\\"+"b\"`, 6, api.ErrExprText)
	wantValue(t, "P3.1", `"a\\"+"b\""`, api.Record{}, none, text(`a\b"`))
	wantValue(t, "P3.1", `"\\\\\""+"\\"`, api.Record{}, none, text(`\\"\`))
	// A text with a fault of its own ends at its quote too: so it is told, not what stands behind it.
	wantFault(t, "P3.1", `"\q" foo`, 0, api.ErrExprText)
	wantFault(t, "P3.1", "1 + \"\xff\" \"", 4, api.ErrExprText)
}

func TestEveryByteInATextInQuotes(t *testing.T) {
	for c := range 256 {
		s := `"a` + string([]byte{byte(c)}) + `b"`
		switch {
		case c == '"':
			wantFault(t, "P3.1", s, 3, api.ErrExprName)
		case c < 0x20 || c > 0x7e || c == '\\':
			wantFault(t, "P3.1", s, 0, api.ErrExprText)
		default:
			wantValue(t, "P3.1", s, api.Record{}, none, text(s[1:4]))
		}
		hex := `"\x` + string("0123456789abcdef"[c>>4]) + string("0123456789ABCDEF"[c&15]) + `"`
		wantValue(t, "P3.1", hex, api.Record{}, none, text(string([]byte{byte(c)})))
	}
}
