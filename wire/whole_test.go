package wire_test

import (
	"bytes"
	"math/rand"
	"testing"

	"eddy/api"
)

// fitThings gives things that the model calls fit.
func (k kind) fitThings(seed int64, n int) []any {
	r := rand.New(rand.NewSource(seed))
	var all []any
	for len(all) < n {
		if thing := k.make(r); k.look(thing) == api.OK {
			all = append(all, thing)
		}
	}
	return all
}

// holds asks of any bytes what P4.14 and P4.16 say of them.
func (k kind) holds(t *testing.T, b []byte) {
	t.Helper()
	want := verdict(k.form, b)
	if want != api.OK {
		k.refuses(t, "P4.14", b, want)
		return
	}
	got, e := k.get(b)
	if e != api.OK {
		t.Errorf("P4.14: Get%s(%s) answers error %d, want OK", k.name, short(b), e)
		return
	}
	if laid := k.lay(got); !bytes.Equal(laid, b) {
		t.Errorf("P4.16: Get%s(%s) answers %s, whose bytes are %s", k.name, short(b), shown(got), short(laid))
	}
	k.writes(t, "P4.16", got, b)
}

func TestWhatIsMadeAgainstTheModel(t *testing.T) {
	for _, k := range kinds() {
		r := rand.New(rand.NewSource(4))
		seen := map[api.Errno]int{}
		for range 3000 {
			thing := k.make(r)
			want := k.look(thing)
			seen[want]++
			if want != api.OK {
				k.unfit(t, "P4.13", thing, want)
			} else {
				k.bothWays(t, "P4.16", thing, k.lay(thing))
			}
		}
		if seen[api.OK] < 500 || seen[api.OK] > 2900 {
			t.Errorf("of the things that are made of Put%s %d are fit: the test doesn't ask what it should", k.name, seen[api.OK])
		}
	}
}

// twisted gives bytes that are near those of a form: one byte is another, is gone, or is there twice, and two pieces are swapped.
func twisted(r *rand.Rand, b []byte) [][]byte {
	marks := []byte{0, 1, 2, 3, 4, 5, 6, 7, 9, 10, 11, 12, 13, 64, 65, 77, 79, 83, 0x7f, 0x80, 0x81, 0x82, 0xfe, 0xff}
	var all [][]byte
	for range 40 {
		at, to := r.Intn(len(b)), r.Intn(len(b))
		other := bytes.Clone(b)
		other[at] = marks[r.Intn(len(marks))]
		swapped := bytes.Clone(b)
		swapped[at], swapped[to] = b[to], b[at]
		all = append(all, other, swapped, join(b[:at], b[at+1:]), join(b[:at+1], b[at:]), join(b[:at], []byte{b[at] | 0x80, 0}, b[at+1:]))
	}
	return all
}

func TestTwistedBytesAgainstTheModel(t *testing.T) {
	for _, k := range kinds() {
		r := rand.New(rand.NewSource(14))
		for _, thing := range k.fitThings(14, 60) {
			for _, b := range twisted(r, k.lay(thing)) {
				k.holds(t, b)
			}
		}
	}
}

// each goes through all rows of up to n of the bytes.
func each(n int, marks []byte, ask func([]byte)) {
	var b []byte
	var on func()
	on = func() {
		ask(b)
		if len(b) == n {
			return
		}
		for _, x := range marks {
			b = append(b, x)
			on()
			b = b[:len(b)-1]
		}
	}
	on()
}

func TestAllShortBytesAgainstTheModel(t *testing.T) {
	marks := []byte{0, 1, 2, 4, 'a', 0x80, 0x81}
	for _, name := range []string{"Record", "State"} {
		k := kindNamed(name)
		each(6, marks, func(b []byte) { k.holds(t, b) })
	}
	for name, heads := range map[string][]string{
		"Record":   {"01 61", "01 61 00 03", "0C 61 61 61 61 61 61 61 61 61 61 61", "80 80"},
		"State":    {"80 80", "00 02 01 61", "00 02 01 62 01 00"},
		"Segment":  {"53", "53 01 00 00 00", "53 01 00 01 01 02 03", "53 01 00 01 00 00 00 00 00", "53 01 00 00 00 00 01"},
		"Manifest": {"4D", "4D 01 00 00", "4D 01 00 00 00 00 02 80", "4D 01 00 00 00 00 02 00 00 00 00 00"},
		"Row":      {"4F", "4F 80", "4F 00 01 61"},
	} {
		k := kindNamed(name)
		for _, head := range heads {
			each(4, marks, func(b []byte) { k.holds(t, join(hex(head), b)) })
		}
	}
	all := make([]byte, 256)
	for k := range all {
		all[k] = byte(k)
	}
	for _, k := range kinds() {
		each(2, all, func(b []byte) { k.holds(t, b) })
	}
}

func TestEveryCutIsRefused(t *testing.T) {
	for _, k := range kinds() {
		for _, thing := range k.fitThings(17, 40) {
			b := k.lay(thing)
			k.reads(t, "P4.16", b, thing)
			for n := range b {
				if got, e := k.get(b[:n]); e == api.OK || e != verdict(k.form, b[:n]) || !same(got, k.zero) {
					t.Errorf("P4.17: Get%s of the first %d bytes of %s answers %s, error %d, want error %d", k.name, n, short(b), shown(got), e, verdict(k.form, b[:n]))
				}
			}
		}
	}
}

func TestBytesBehindTheFormAreRefused(t *testing.T) {
	for _, k := range kinds() {
		for _, thing := range k.fitThings(18, 40) {
			b := k.lay(thing)
			for _, behind := range [][]byte{{0}, {1}, {0x80}, {0xff}, {0, 0, 0, 0}, {0x80, 0x80, 0x80, 0x80, 0x80}, b, bytes.Repeat([]byte{7}, 1000)} {
				k.refuses(t, "P4.17", join(b, behind), api.ErrWireMore)
			}
		}
	}
}

func TestUnlikeThingsHaveUnlikeBytes(t *testing.T) {
	for _, k := range kinds() {
		things := map[string]string{}
		for _, thing := range k.fitThings(16, 1500) {
			b, e := k.put(thing)
			if e != api.OK {
				t.Errorf("P4.13: Put%s(%.300s) answers error %d", k.name, shown(thing), e)
				continue
			}
			before, met := things[string(b)]
			if met && before != shown(thing) {
				t.Errorf("P4.16: %s and %s have the same bytes", before, shown(thing))
			}
			things[string(b)] = shown(thing)
		}
	}
}
