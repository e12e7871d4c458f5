package value

import (
	"bytes"
	"testing"

	"eddy/api"
)

// mixture is someValues and values by chance that are valid.
func mixture() []api.Value {
	l := someValues()
	c := chanceFrom(3)
	for len(l) < 900 {
		if v := c.value(0); verdict(v) == api.OK {
			l = append(l, v)
		}
	}
	return l
}

func TestTextsAndBytesGiveBackTheValue(t *testing.T) {
	for _, v := range mixture() {
		s := Print(v)
		if got, n, e := Parse(s); !same(got, v) || n != len(s) || e != api.OK {
			t.Errorf("P2.12: Parse(%s) = %+v, %d, %d", s, got, n, e)
		}
		if got, n, e := Lead(s + " ]"); !same(got, v) || n != len(s) || e != api.OK {
			t.Errorf("P2.12: Lead(%s ..) = %+v, %d, %d", s, got, n, e)
		}
		b := Encode(v)
		for _, behind := range []string{"", "\x00", "\x01", "\xff\xff"} {
			if got, n, e := Decode(append(bytes.Clone(b), behind...)); !same(got, v) || n != len(b) || e != api.OK {
				t.Errorf("P2.12: Decode of the bytes of %s = %+v, %d, %d", s, got, n, e)
			}
		}
	}
}

func TestCompareTextAndBytesTellTheSameApart(t *testing.T) {
	l := mixture()
	texts, codes := make([]string, len(l)), make([][]byte, len(l))
	for k, v := range l {
		texts[k], codes[k] = Print(v), Encode(v)
	}
	for i, a := range l {
		for j, b := range l {
			order, alike := Compare(a, b), same(a, b)
			if alike != (order == 0) || alike != (texts[i] == texts[j]) || alike != bytes.Equal(codes[i], codes[j]) {
				t.Fatalf("P2.12: %s and %s: Compare %d, bytes % X and % X", texts[i], texts[j], order, codes[i], codes[j])
			}
			if back := Compare(b, a); back != -order {
				t.Fatalf("P2.5: %s and %s: Compare %d, the other way %d", texts[i], texts[j], order, back)
			}
			if !alike && bytes.HasPrefix(codes[i], codes[j]) {
				t.Fatalf("P2.12: % X begins with % X", codes[i], codes[j])
			}
		}
	}
}

func TestCompareIsAnOrder(t *testing.T) {
	l := someValues()
	for _, a := range l {
		for _, b := range l {
			for _, c := range l {
				if Compare(a, b) < 0 && Compare(b, c) < 0 && Compare(a, c) >= 0 {
					t.Fatalf("P2.5: %s ahead of %s ahead of %s, but not the first of the last", Print(a), Print(b), Print(c))
				}
			}
		}
	}
}

// What is read with OK is valid: of texts of values in which a byte was changed, taken out or put in.
func TestWhatIsReadIsValid(t *testing.T) {
	const letters = "ne-019\"\\xA[], \x00\xc3\xa9"
	c := chanceFrom(4)
	for _, v := range mixture() {
		s := Print(v)
		for range 60 {
			at := c.Intn(len(s) + 1)
			letter := string([]byte{letters[c.Intn(len(letters))]})
			spoilt := s[:at] + letter + s[at:]
			if at < len(s) && c.Intn(2) == 0 {
				spoilt = s[:at] + letter + s[at+1:]
			}
			got, n, e := Parse(spoilt)
			if e == api.OK && (verdict(got) != api.OK || n != len(spoilt)) {
				t.Fatalf("P2.12: Parse(%q) = %+v, %d", spoilt, got, n)
			}
			if e != api.OK && (!same(got, none) || n < 0 || n > len(spoilt)) {
				t.Fatalf("P2.8: Parse(%q) = %+v, %d with error %d", spoilt, got, n, e)
			}
			led, end, fault := Lead(spoilt)
			if fault == api.OK && (verdict(led) != api.OK || end > len(spoilt)) {
				t.Fatalf("P2.12: Lead(%q) = %+v, %d", spoilt, led, end)
			}
		}
	}
}
