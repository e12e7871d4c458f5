package frame

import (
	"bytes"
	"encoding/binary"
	"hash/crc32"
	"testing"

	"eddy/api"
)

// wrapped gives the frame of a body as P1.3 tells it, without this package's help.
func wrapped(body []byte) []byte {
	n := uint16(len(body))
	b := binary.LittleEndian.AppendUint16(nil, n)
	b = binary.LittleEndian.AppendUint16(b, 65535-n)
	b = append(b, body...)
	return binary.LittleEndian.AppendUint32(b, crc32.ChecksumIEEE(body))
}

// read answers what P1.5 asks of Unwrap, without this package's help.
func read(b []byte) ([]byte, int, api.Errno) {
	if len(b) < 4 {
		return nil, 0, api.ErrFrameCut
	}
	n, rest := int(binary.LittleEndian.Uint16(b)), int(binary.LittleEndian.Uint16(b[2:]))
	if n+rest != 65535 || n > 32768 {
		return nil, 0, api.ErrFrameHead
	}
	if len(b) < n+8 {
		return nil, 0, api.ErrFrameCut
	}
	if binary.LittleEndian.Uint32(b[4+n:]) != crc32.ChecksumIEEE(b[4:4+n]) {
		return nil, 0, api.ErrFrameSum
	}
	return b[4 : 4+n], n + 8, api.OK
}

// join lays bytes one behind the other in new memory.
func join(pieces ...[]byte) []byte { return bytes.Join(pieces, nil) }

// mustWrap gives Wrap's frame of a body that can be framed.
func mustWrap(t *testing.T, body []byte) []byte {
	t.Helper()
	b, e := Wrap(body)
	if e != api.OK {
		t.Fatalf("P1.4: Wrap of %d bytes: error %d", len(body), e)
	}
	return b
}

func TestNumbersAreTheChapters(t *testing.T) {
	got := []int{api.MaxBody, int(api.ErrFrameBody), int(api.ErrFrameCut), int(api.ErrFrameHead), int(api.ErrFrameSum), int(api.ErrFrameBehind)}
	for k, want := range []int{32768, 10, 11, 12, 13, 14} {
		if got[k] != want {
			t.Errorf("number %d is %d, want %d", k, got[k], want)
		}
	}
}

func TestWrapOfKnownBodies(t *testing.T) {
	for _, c := range []struct{ body, want string }{
		{"", "\x00\x00\xff\xff\x00\x00\x00\x00"},
		{"\x01", "\x01\x00\xfe\xff\x01\x1b\xdf\x05\xa5"},
		{"123456789", "\x09\x00\xf6\xff123456789\x26\x39\xf4\xcb"},
	} {
		if b, e := Wrap([]byte(c.body)); e != api.OK || string(b) != c.want {
			t.Errorf("P1.3: Wrap(%q) = % X, %d; want % X", c.body, b, e, c.want)
		}
	}
	if b, e := Wrap(nil); e != api.OK || string(b) != "\x00\x00\xff\xff\x00\x00\x00\x00" {
		t.Errorf("P1.3: Wrap(nil) = % X, %d", b, e)
	}
}

func TestWrapOfEveryKindOfLength(t *testing.T) {
	for _, n := range []int{0, 1, 2, 254, 255, 256, 257, 511, 512, 4096, 32766, 32767, 32768} {
		body := mixed(n, 3)
		b, e := Wrap(body)
		if e != api.OK || !bytes.Equal(b, wrapped(body)) {
			t.Errorf("P1.3: Wrap of %d bytes: %d bytes, error %d", n, len(b), e)
		}
	}
}

func TestWrapRefusesLongBodies(t *testing.T) {
	for _, n := range []int{32769, 32770, 65535, 65536, 65537, 1 << 20} {
		if b, e := Wrap(make([]byte, n)); e != api.ErrFrameBody || len(b) != 0 {
			t.Errorf("P1.4: Wrap of %d bytes: %d bytes, error %d", n, len(b), e)
		}
	}
}

func TestUnwrapGivesBack(t *testing.T) {
	for _, n := range []int{0, 1, 2, 255, 256, 32767, 32768} {
		body := mixed(n, 5)
		b := mustWrap(t, body)
		for _, behind := range []string{"", "\x07", "\x00\x00\xff\xff\x00\x00\x00\x00", "\xff\xff\xff\xff\xff"} {
			got, size, e := Unwrap(join(b, []byte(behind)))
			if e != api.OK || size != n+8 || !bytes.Equal(got, body) {
				t.Errorf("P1.5: a body of %d bytes and %q: %d bytes, size %d, error %d", n, behind, len(got), size, e)
			}
		}
	}
}

func TestUnwrapOfKnownBytes(t *testing.T) {
	for _, c := range []struct {
		b, body string
		size    int
		want    api.Errno
	}{
		{"\x00\x00\xff\xff\x00\x00\x00\x00\x07", "", 8, api.OK},
		{"\x01\x00\xfe\xff\x01\x1b\xdf\x05\xa5", "\x01", 9, api.OK},
		{"", "", 0, api.ErrFrameCut},
		{"\x00", "", 0, api.ErrFrameCut},
		{"\x00\x00\xff", "", 0, api.ErrFrameCut},
		{"\xff\xff\xff", "", 0, api.ErrFrameCut},
		{"\x00\x00\xff\xfe", "", 0, api.ErrFrameHead},
		{"\x00\x00\x00\x00", "", 0, api.ErrFrameHead},
		{"\x01\x80\xfe\x7f", "", 0, api.ErrFrameHead},
		{"\xff\xff\x00\x00", "", 0, api.ErrFrameHead},
		{"\x00\x80\xff\x7f", "", 0, api.ErrFrameCut},
		{"\x00\x00\xff\xff", "", 0, api.ErrFrameCut},
		{"\x00\x00\xff\xff\x01\x00\x00", "", 0, api.ErrFrameCut},
		{"\x00\x00\xff\xff\x01\x00\x00\x00", "", 0, api.ErrFrameSum},
		{"\x00\x00\xff\xff\x00\x00\x00\x01", "", 0, api.ErrFrameSum},
		{"\x01\x00\xfe\xff\x00\x1b\xdf\x05\xa5", "", 0, api.ErrFrameSum},
	} {
		body, size, e := Unwrap([]byte(c.b))
		if string(body) != c.body || size != c.size || e != c.want {
			t.Errorf("P1.5: Unwrap(% X) = % X, %d, %d; want % X, %d, %d", c.b, body, size, e, c.body, c.size, c.want)
		}
	}
	if body, size, e := Unwrap(nil); len(body) != 0 || size != 0 || e != api.ErrFrameCut {
		t.Errorf("P1.5: Unwrap(nil) = % X, %d, %d", body, size, e)
	}
}

func TestUnwrapOfEveryLengthInAHead(t *testing.T) {
	for n := range 65536 {
		head := []byte{byte(n), byte(n >> 8), byte(^n), byte(^n >> 8)}
		want := api.ErrFrameCut
		if n > 32768 {
			want = api.ErrFrameHead
		}
		if body, size, e := Unwrap(head); len(body) != 0 || size != 0 || e != want {
			t.Fatalf("P1.5: a head of length %d: % X, %d, %d; want %d", n, body, size, e, want)
		}
	}
}

func TestUnwrapOfLengthsAboveTheBoundWithAllTheirBytes(t *testing.T) {
	for _, n := range []int{32769, 40000, 65535} {
		b := wrapped(mixed(n, 11))
		if body, size, e := Unwrap(b); len(body) != 0 || size != 0 || e != api.ErrFrameHead {
			t.Errorf("P1.5: a whole frame of %d bytes: %d bytes, %d, %d", n, len(body), size, e)
		}
	}
}

func TestUnwrapOfAnotherComplement(t *testing.T) {
	b := wrapped([]byte("body"))
	for other := range 65536 {
		b[2], b[3] = byte(other), byte(other>>8)
		want := api.ErrFrameHead
		if other == 65535-4 {
			want = api.OK
		}
		if _, _, e := Unwrap(b); e != want {
			t.Fatalf("P1.5: the length 4 with the complement %d: error %d, want %d", other, e, want)
		}
	}
}

func TestUnwrapOfEveryCut(t *testing.T) {
	for _, n := range []int{0, 1, 5, 300} {
		b := mustWrap(t, mixed(n, 13))
		for cut := range len(b) {
			if body, size, e := Unwrap(b[:cut]); len(body) != 0 || size != 0 || e != api.ErrFrameCut {
				t.Errorf("P1.5: a frame of %d bytes cut at %d: % X, %d, %d", len(b), cut, body, size, e)
			}
		}
	}
	b := mustWrap(t, mixed(32768, 13))
	for _, cut := range []int{3, 4, 32768, 32772, 32775} {
		if body, size, e := Unwrap(b[:cut]); len(body) != 0 || size != 0 || e != api.ErrFrameCut {
			t.Errorf("P1.5: the longest frame cut at %d: %d bytes, %d, %d", cut, len(body), size, e)
		}
	}
}

func TestUnwrapTellsTheFirstErrorThatApplies(t *testing.T) {
	for _, c := range []struct {
		b    string
		want api.Errno
	}{
		{"\x01\x00\xff", api.ErrFrameCut},                      // a bad head, too short to tell
		{"\x05\x00\xff\xff", api.ErrFrameHead},                 // a bad head, and cut
		{"\x00\x00\xff\xfe\x01\x00\x00\x00", api.ErrFrameHead}, // a bad head and a bad sum
		{"\x02\x00\xfd\xffxx\x00\x00\x00", api.ErrFrameCut},    // cut, and a bad sum
	} {
		if _, _, e := Unwrap([]byte(c.b)); e != c.want {
			t.Errorf("P1.5: Unwrap(% X): error %d, want %d", c.b, e, c.want)
		}
	}
}

func TestExact(t *testing.T) {
	for _, n := range []int{0, 1, 9, 32768} {
		body := mixed(n, 17)
		b := mustWrap(t, body)
		if got, e := Exact(b); e != api.OK || !bytes.Equal(got, body) {
			t.Errorf("P1.6: Exact of a frame of %d bytes: %d bytes, error %d", len(b), len(got), e)
		}
		for _, behind := range [][]byte{{0}, {7, 7}, b} {
			if got, e := Exact(join(b, behind)); e != api.ErrFrameBehind || len(got) != 0 {
				t.Errorf("P1.6: %d bytes behind: %d bytes, error %d", len(behind), len(got), e)
			}
		}
	}
}

func TestExactTellsUnwrapsErrorsFirst(t *testing.T) {
	for _, c := range []struct {
		b    string
		want api.Errno
	}{
		{"", api.ErrFrameCut},
		{"\x00\x00\xff", api.ErrFrameCut},
		{"\x00\x80\xff\x7f", api.ErrFrameCut},
		{"\x00\x00\xff\xfe\x00\x00\x00\x00\x07", api.ErrFrameHead},
		{"\x01\x80\xfe\x7f", api.ErrFrameHead},
		{"\x00\x00\xff\xff\x01\x00\x00\x00\x07", api.ErrFrameSum},
		{"\x00\x00\xff\xff\x00\x00\x00\x00\x07", api.ErrFrameBehind},
	} {
		if body, e := Exact([]byte(c.b)); e != c.want || len(body) != 0 {
			t.Errorf("P1.6: Exact(% X) = % X, %d; want %d", c.b, body, e, c.want)
		}
	}
	if body, e := Exact(nil); e != api.ErrFrameCut || len(body) != 0 {
		t.Errorf("P1.6: Exact(nil) = % X, %d", body, e)
	}
}

func TestUnwrapAndExactOfAnyBytes(t *testing.T) {
	whole := wrapped([]byte("any bytes at all"))
	for seed := range 4000 {
		b := mixed(seed%40, uint32(seed))
		if seed%2 == 1 {
			b = join(whole, b)
			b[seed%len(b)] ^= byte(seed >> 3)
		}
		body, size, e := Unwrap(b)
		wantBody, wantSize, want := read(b)
		if !bytes.Equal(body, wantBody) || size != wantSize || e != want {
			t.Errorf("P1.5: Unwrap(% X) = % X, %d, %d; want % X, %d, %d", b, body, size, e, wantBody, wantSize, want)
		}
		if want == api.OK && len(b) > wantSize {
			wantBody, want = nil, api.ErrFrameBehind
		}
		if body, e := Exact(b); !bytes.Equal(body, wantBody) || e != want {
			t.Errorf("P1.6: Exact(% X) = % X, %d; want % X, %d", b, body, e, wantBody, want)
		}
	}
}
