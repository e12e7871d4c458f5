package value

import (
	"bytes"
	"math"
	"testing"

	"eddy/api"
)

// coded is a value and its bytes.
type coded struct {
	v api.Value
	b []byte
}

// run gives n bytes c.
func run(n int, c byte) []byte { return bytes.Repeat([]byte{c}, n) }

func knownBytes() []coded {
	return []coded{
		{none, []byte{0}},
		{num(0), []byte{1, 0}}, {num(-1), []byte{1, 1}}, {num(1), []byte{1, 2}}, {num(-2), []byte{1, 3}},
		{num(63), []byte{1, 0x7e}}, {num(-64), []byte{1, 0x7f}}, {num(64), []byte{1, 0x80, 1}}, {num(-65), []byte{1, 0x81, 1}}, {num(128), []byte{1, 0x80, 2}},
		{num(8191), []byte{1, 0xfe, 0x7f}}, {num(8192), []byte{1, 0x80, 0x80, 1}}, {num(-8193), []byte{1, 0x81, 0x80, 1}},
		{num(math.MaxInt64), append([]byte{1, 0xfe}, append(run(8, 0xff), 1)...)}, {num(math.MinInt64), append([]byte{1}, append(run(9, 0xff), 1)...)},
		{num(1 << 62), append([]byte{1}, append(run(9, 0x80), 1)...)}, {num(1<<62 - 1), append([]byte{1, 0xfe}, append(run(7, 0xff), 0x7f)...)},
		{text(""), []byte{2, 0}}, {text("a"), []byte{2, 1, 'a'}}, {text("\x00\xff"), []byte{2, 2, 0, 255}}, {text("\u00e9"), []byte{2, 2, 0xc3, 0xa9}}, {text(long(24)), append([]byte{2, 24}, long(24)...)},
		{list(), []byte{3, 0}}, {list(none), []byte{3, 1, 0}}, {nested(2), []byte{3, 1, 3, 1, 3, 0}}, {list(times(6, none)...), []byte{3, 6, 0, 0, 0, 0, 0, 0}},
		{list(num(-1), text("a\"\u00e9"), none), []byte{3, 3, 1, 1, 2, 4, 0x61, 0x22, 0xc3, 0xa9, 0}},
		{list(list(), list(num(64)), text("b")), []byte{3, 3, 3, 0, 3, 1, 1, 0x80, 1, 2, 1, 'b'}},
		{list(list(times(6, none)...), list(times(3, num(1))...)), []byte{3, 2, 3, 6, 0, 0, 0, 0, 0, 0, 3, 3, 1, 2, 1, 2, 1, 2}},
	}
}

func TestEncodeOfKnownValues(t *testing.T) {
	for _, c := range knownBytes() {
		if got := Encode(c.v); !bytes.Equal(got, c.b) {
			t.Errorf("P2.10: Encode(%s) = % X, want % X", Print(c.v), got, c.b)
		}
	}
	if got := Encode(api.Value{Kind: api.List, Items: []api.Value{}}); !bytes.Equal(got, []byte{3, 0}) {
		t.Errorf("P2.10: Encode of the empty list = % X", got)
	}
}

func TestEncodeOfIntsByTheRule(t *testing.T) {
	for _, i := range someInts() {
		u := uint64(2 * i)
		if i < 0 {
			u = uint64(-2*i - 1)
		}
		want := []byte{1}
		for u > 127 {
			want = append(want, byte(u%128+128))
			u /= 128
		}
		want = append(want, byte(u))
		if got := Encode(num(i)); !bytes.Equal(got, want) {
			t.Errorf("P2.10: Encode(%d) = % X, want % X", i, got, want)
		}
	}
}

func TestDecodeOfKnownBytes(t *testing.T) {
	for _, c := range knownBytes() {
		for _, behind := range [][]byte{nil, {0}, {7}, {0x80, 1}, {255, 255, 255}} {
			b := append(bytes.Clone(c.b), behind...)
			if v, n, e := Decode(b); !same(v, c.v) || n != len(c.b) || e != api.OK {
				t.Errorf("P2.11: Decode(% X) = %+v, %d, %d", b, v, n, e)
			}
		}
	}
}

func TestDecodeTellsEachFault(t *testing.T) {
	eleven := []byte{3, 3, 3, 4, 0, 0, 0, 0, 3, 4, 0, 0, 0, 0}
	behind := func(more ...byte) []byte { return append(bytes.Clone(eleven), more...) }
	for _, c := range []struct {
		b []byte
		e api.Errno
	}{
		{nil, api.ErrValSyntax}, {[]byte{}, api.ErrValSyntax},
		{[]byte{4}, api.ErrValSyntax}, {[]byte{5, 0}, api.ErrValSyntax}, {[]byte{255}, api.ErrValSyntax}, {[]byte{128, 0}, api.ErrValSyntax},
		{[]byte{1}, api.ErrValSyntax}, {[]byte{1, 0x80}, api.ErrValSyntax}, {[]byte{1, 0x80, 0}, api.ErrValSyntax}, {[]byte{1, 0xff, 0x80, 0, 0}, api.ErrValSyntax},
		{append([]byte{1}, run(9, 0xff)...), api.ErrValSyntax}, {append([]byte{1}, append(run(9, 0xff), 0)...), api.ErrValSyntax}, {append([]byte{1}, append(run(9, 0xff), 2)...), api.ErrValSyntax}, {append([]byte{1}, append(run(9, 0x80), 3)...), api.ErrValSyntax}, {append([]byte{1}, append(run(9, 0x80), 0x81, 1)...), api.ErrValSyntax}, {append([]byte{1}, run(300, 0x80)...), api.ErrValSyntax},
		{[]byte{2}, api.ErrValSyntax}, {[]byte{2, 1}, api.ErrValSyntax}, {[]byte{2, 2, 97}, api.ErrValSyntax}, {append([]byte{2, 24}, long(23)...), api.ErrValSyntax},
		{[]byte{2, 25}, api.ErrValText}, {append([]byte{2, 25}, long(25)...), api.ErrValText}, {[]byte{2, 255}, api.ErrValText}, {[]byte{3, 1, 2, 128}, api.ErrValText},
		{[]byte{3}, api.ErrValSyntax}, {[]byte{3, 1}, api.ErrValSyntax}, {[]byte{3, 2, 0}, api.ErrValSyntax}, {[]byte{3, 6, 0, 0, 0, 0, 0}, api.ErrValSyntax},
		{[]byte{3, 7}, api.ErrValItems}, {[]byte{3, 7, 0, 0, 0, 0, 0, 0, 0}, api.ErrValItems}, {[]byte{3, 255}, api.ErrValItems}, {[]byte{3, 1, 3, 7}, api.ErrValItems},
		{[]byte{3, 1, 3, 1, 3, 1, 3}, api.ErrValDepth}, {[]byte{3, 1, 3, 1, 3, 1, 3, 0}, api.ErrValDepth}, {[]byte{3, 1, 3, 1, 3, 1, 3, 7}, api.ErrValDepth}, {[]byte{3, 1, 3, 1, 3, 1, 4}, api.ErrValSyntax}, {[]byte{3, 1, 3, 1, 3, 2, 0, 3}, api.ErrValDepth},
		{[]byte{3, 2, 4, 2, 25}, api.ErrValSyntax}, {[]byte{3, 2, 2, 25, 4}, api.ErrValText}, {[]byte{3, 2, 3, 7, 4}, api.ErrValItems}, {[]byte{3, 7, 4}, api.ErrValItems},
		{behind(), api.ErrValSyntax}, {behind(0), api.OK}, {behind(4), api.ErrValSyntax}, {behind(3, 0), api.OK}, {behind(3, 1), api.ErrValSyntax}, {behind(3, 1, 0), api.ErrValItems}, {behind(3, 1, 4), api.ErrValItems}, {behind(3, 1, 3), api.ErrValItems}, {behind(3, 1, 2, 25), api.ErrValItems}, {behind(3, 7, 4), api.ErrValItems}, {behind(2, 25), api.ErrValText},
		{[]byte{3, 2, 3, 5, 0, 0, 0, 0, 0, 3, 4, 0, 0, 3, 1, 3, 0}, api.ErrValDepth}, {[]byte{3, 2, 3, 6, 0, 0, 0, 0, 0, 0, 3, 4, 0, 0, 3, 1, 3, 0}, api.ErrValItems},
	} {
		v, n, e := Decode(c.b)
		if e != c.e {
			t.Errorf("P2.11: Decode(% X): error %d, want %d", c.b, e, c.e)
		}
		if e != api.OK && (!same(v, none) || n != 0) {
			t.Errorf("P2.11: Decode(% X) with error %d = %+v, %d", c.b, e, v, n)
		}
	}
}

// walked tells how far a value's bytes go and what is wrong with them, by P2.11, without this package's help: open holds, for each list that is open, how many of its items are to come.
func walked(b []byte) (int, api.Errno) {
	open, at := []int{1}, 0
	for parts := 1; ; parts++ {
		for len(open) > 0 && open[len(open)-1] == 0 {
			open = open[:len(open)-1]
		}
		if len(open) == 0 {
			return at, api.OK
		}
		open[len(open)-1]--
		if at == len(b) {
			return 0, api.ErrValSyntax
		}
		kind := b[at]
		at++
		switch {
		case parts == 13:
			return 0, api.ErrValItems
		case kind > 3:
			return 0, api.ErrValSyntax
		case kind == 3 && len(open) > 3:
			return 0, api.ErrValDepth
		case kind == 0:
			continue
		}
		if at == len(b) {
			return 0, api.ErrValSyntax
		}
		count := int(b[at])
		switch kind {
		case 1:
			size := bytes.IndexFunc(b[at:min(at+10, len(b))], func(r rune) bool { return r < 0x80 }) + 1
			if size == 0 || size > 1 && b[at+size-1] == 0 || size == 10 && b[at+9] > 1 {
				return 0, api.ErrValSyntax
			}
			at += size
		case 2:
			if count > 24 {
				return 0, api.ErrValText
			}
			if len(b) < at+1+count {
				return 0, api.ErrValSyntax
			}
			at += 1 + count
		case 3:
			if count > 6 {
				return 0, api.ErrValItems
			}
			at++
			open = append(open, count)
		}
	}
}

func checkWalk(t *testing.T, b []byte) {
	v, n, e := Decode(b)
	wantN, wantE := walked(b)
	if n != wantN || e != wantE {
		t.Fatalf("P2.11: Decode(% X) = .., %d, %d; want %d, %d", b, n, e, wantN, wantE)
	}
	if e == api.OK && (verdict(v) != api.OK || !bytes.Equal(Encode(v), b[:n])) {
		t.Fatalf("P2.11: Decode(% X) = %+v, which isn't valid or isn't written so", b, v)
	}
	if e != api.OK && !same(v, none) {
		t.Fatalf("P2.11: Decode(% X) = %+v with error %d", b, v, e)
	}
}

func TestDecodeOfAllShortBytes(t *testing.T) {
	letters := []byte{0, 1, 2, 3, 4, 7, 25, 0x7f, 0x80, 0xff}
	var walk func(b []byte)
	walk = func(b []byte) {
		checkWalk(t, b)
		if len(b) < 5 {
			for _, c := range letters {
				walk(append(bytes.Clone(b), c))
			}
		}
	}
	walk(nil)
}

func TestDecodeOfBytesByChance(t *testing.T) {
	c := chanceFrom(2)
	letters := []byte{0, 0, 1, 2, 3, 3, 3, 4, 5, 6, 7, 24, 25, 0x80, 0xff}
	for range 60000 {
		b := []byte{3, 6}
		for range c.Intn(30) {
			b = append(b, letters[c.Intn(len(letters))])
		}
		checkWalk(t, b)
	}
	for range 60000 {
		b := Encode(c.value(0))
		b[c.Intn(len(b))] ^= 1 << c.Intn(8)
		checkWalk(t, b)
		checkWalk(t, b[:c.Intn(len(b))])
	}
}
