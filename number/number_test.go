package number_test

import (
	"bytes"
	"math"
	"slices"
	"testing"

	"eddy/api"
	"eddy/number"
)

// edges: numbers at the ends of their groups, and at bounds of the chapters.
var edges = []int{0, 1, 2, 23, 24, 126, 127, 128, 129, 255, 256, 16383, 16384, 1<<21 - 1, 1 << 21, 1<<28 - 1, 1 << 28, 1<<30 - 1, 1 << 30, 1<<30 + 1, 1<<35 - 1}

func TestForms(t *testing.T) {
	for _, c := range []struct {
		n    int
		want []byte
	}{
		{0, []byte{0}}, {1, []byte{1}}, {127, []byte{0x7F}}, {128, []byte{0x80, 1}}, {300, []byte{0xAC, 2}}, {16383, []byte{0xFF, 0x7F}}, {16384, []byte{0x80, 0x80, 1}}, {1 << 30, []byte{0x80, 0x80, 0x80, 0x80, 4}}, {1<<35 - 1, []byte{0xFF, 0xFF, 0xFF, 0xFF, 0x7F}},
	} {
		if got := number.Append(nil, c.n); !bytes.Equal(got, c.want) {
			t.Errorf("P4.1: Append(%d): % x, want % x", c.n, got, c.want)
		}
		if got := number.Append([]byte{9, 8}, c.n); !bytes.Equal(got, slices.Concat([]byte{9, 8}, c.want)) {
			t.Errorf("P4.1: Append(%d) behind 09 08: % x", c.n, got)
		}
	}
}

// wantLead fails if the number at the beginning of b is another one.
func wantLead(t *testing.T, b []byte, bound, n, size int, e api.Errno) {
	t.Helper()
	was := slices.Clone(b)
	if gotN, gotSize, gotE := number.Lead(b, bound); gotN != n || gotSize != size || gotE != e {
		t.Errorf("P4.1: Lead(% x, %d): %d, %d, %d, want %d, %d, %d", b, bound, gotN, gotSize, gotE, n, size, e)
	}
	if !bytes.Equal(b, was) {
		t.Errorf("Lead(% x) changed its bytes", was)
	}
}

func TestReadBack(t *testing.T) {
	for _, n := range edges {
		b := number.Append(nil, n)
		for _, behind := range [][]byte{nil, {0}, {0x80}, {0xFF, 0xFF, 0xFF, 0xFF, 0xFF, 0xFF}} {
			whole := slices.Concat(b, behind)
			wantLead(t, whole, n, n, len(b), api.OK)
			wantLead(t, whole, math.MaxInt, n, len(b), api.OK)
			if n > 0 {
				wantLead(t, whole, n-1, 0, 0, api.ErrWireBound)
			}
		}
		for cut := range len(b) {
			wantLead(t, b[:cut], math.MaxInt, 0, 0, api.ErrWireShort)
		}
	}
}

func TestRefused(t *testing.T) {
	for _, c := range []struct {
		b    []byte
		want api.Errno
	}{
		{nil, api.ErrWireShort}, {[]byte{0x80}, api.ErrWireShort}, {[]byte{0xFF, 0x80, 0x80, 0xFF}, api.ErrWireShort},
		{[]byte{0x80, 0x80, 0x80, 0x80, 0x80}, api.ErrWireForm}, {[]byte{0xFF, 0xFF, 0xFF, 0xFF, 0xFF, 1}, api.ErrWireForm}, {[]byte{0x81, 0x80, 0x80, 0x80, 0x80, 0}, api.ErrWireForm},
		{[]byte{0x80, 0}, api.ErrWireForm}, {[]byte{0x83, 0, 2}, api.ErrWireForm}, {[]byte{0xFF, 0xFF, 0}, api.ErrWireForm}, {[]byte{0xFF, 0xFF, 0xFF, 0xFF, 0}, api.ErrWireForm},
		{[]byte{101}, api.ErrWireBound}, {[]byte{0xFF, 0xFF, 0xFF, 0xFF, 0x7F}, api.ErrWireBound},
	} {
		wantLead(t, c.b, 100, 0, 0, c.want)
	}
}

// TestEveryTwoBytes: of all beginnings of two bytes just those are numbers that Append writes.
func TestEveryTwoBytes(t *testing.T) {
	for first := range 256 {
		for second := range 256 {
			b := []byte{byte(first), byte(second)}
			n, size, e := number.Lead(b, math.MaxInt)
			if e != api.OK {
				if first < 0x80 || second > 0 && second < 0x80 {
					t.Errorf("P4.1: Lead(% x): %d", b, e)
				}
				continue
			}
			if !bytes.Equal(number.Append(nil, n), b[:size]) {
				t.Errorf("P4.1: Lead(% x): %d, %d, which is written otherwise", b, n, size)
			}
		}
	}
}
