package frame

import (
	"bytes"
	"testing"

	"eddy/api"
)

// sameBodies tells whether two lists hold the same bodies.
func sameBodies(a, b [][]byte) bool {
	if len(a) != len(b) {
		return false
	}
	for k := range a {
		if !bytes.Equal(a[k], b[k]) {
			return false
		}
	}
	return true
}

// logOf gives the frames of the bodies one behind the other.
func logOf(t *testing.T, bodies [][]byte) []byte {
	t.Helper()
	var b []byte
	for _, body := range bodies {
		b = append(b, mustWrap(t, body)...)
	}
	return b
}

// someBodies gives lists of bodies: none, empty ones, and bodies that themselves look like frames.
func someBodies() [][][]byte {
	return [][][]byte{
		nil,
		{nil},
		{nil, nil, nil},
		{[]byte("a")},
		{[]byte("a"), []byte("bc")},
		{[]byte("a"), nil, []byte("bc"), nil},
		{wrapped(nil), wrapped([]byte("a")), wrapped(wrapped([]byte("bc")))},
		{mixed(300, 1), mixed(255, 2), nil, mixed(1, 3), mixed(256, 4)},
	}
}

func TestScanOfNoBytes(t *testing.T) {
	for _, b := range [][]byte{nil, {}} {
		if bodies, good, e := Scan(b); len(bodies) != 0 || good != 0 || e != api.OK {
			t.Errorf("P1.7: Scan of no bytes = %q, %d, %d", bodies, good, e)
		}
	}
}

func TestScanOfWholeLogs(t *testing.T) {
	lists := append(someBodies(), [][]byte{mixed(32768, 1), mixed(32767, 2), mixed(32768, 3)})
	for k, list := range lists {
		b := logOf(t, list)
		bodies, good, e := Scan(b)
		if !sameBodies(bodies, list) || good != len(b) || e != api.OK {
			t.Errorf("P1.7: log %d: %d bodies, %d of %d bytes, error %d", k, len(bodies), good, len(b), e)
		}
	}
}

func TestScanOfKnownBytes(t *testing.T) {
	empty := "\x00\x00\xff\xff\x00\x00\x00\x00"
	for _, c := range []struct {
		b     string
		count int
		good  int
		want  api.Errno
	}{
		{empty + "\x07", 1, 8, api.ErrFrameCut},
		{empty + "\x07\x07\x07\x07", 1, 8, api.ErrFrameHead},
		{empty + empty, 2, 16, api.OK},
		{"\x07", 0, 0, api.ErrFrameCut},
		{"\x01\x80\xfe\x7f" + empty, 0, 0, api.ErrFrameHead},
		{"\x00\x80\xff\x7f" + empty, 0, 0, api.ErrFrameCut},
		{"\x00\x00\xff\xff\x01\x00\x00\x00" + empty, 0, 0, api.ErrFrameSum},
	} {
		bodies, good, e := Scan([]byte(c.b))
		if len(bodies) != c.count || good != c.good || e != c.want {
			t.Errorf("P1.7: Scan(% X) = %q, %d, %d; want %d bodies, %d, %d", c.b, bodies, good, e, c.count, c.good, c.want)
		}
	}
}

func TestScanEndsAtAnErrorInTheMiddle(t *testing.T) {
	first, third := []byte("first"), []byte("third")
	ahead, behind := wrapped(first), wrapped(third)
	spoiltHead, spoiltBody, spoiltSum := wrapped([]byte("second")), wrapped([]byte("second")), wrapped([]byte("second"))
	spoiltHead[3] ^= 1
	spoiltBody[6] ^= 16
	spoiltSum[13] ^= 128
	for _, c := range []struct {
		name   string
		middle []byte
		want   api.Errno
	}{
		{"a spoilt head", spoiltHead, api.ErrFrameHead},
		{"a spoilt body", spoiltBody, api.ErrFrameSum},
		{"a spoilt sum", spoiltSum, api.ErrFrameSum},
		{"a length above the bound", []byte{0x01, 0x80, 0xFE, 0x7F}, api.ErrFrameHead},
		{"a length beyond the end", []byte{0x00, 0x80, 0xFF, 0x7F}, api.ErrFrameCut},
	} {
		bodies, good, e := Scan(join(ahead, c.middle, behind, behind))
		if !sameBodies(bodies, [][]byte{first}) || good != len(ahead) || e != c.want {
			t.Errorf("P1.7: %s: %q, %d, %d; want error %d", c.name, bodies, good, e, c.want)
		}
	}
}

func TestScanOfEveryCut(t *testing.T) {
	for k, list := range someBodies() {
		b := logOf(t, list)
		count, end := 0, 0
		for cut := range len(b) + 1 {
			for count < len(list) && end+len(list[count])+8 <= cut {
				end += len(list[count]) + 8
				count++
			}
			want := api.ErrFrameCut
			if cut == end {
				want = api.OK
			}
			bodies, good, e := Scan(b[:cut])
			if !sameBodies(bodies, list[:count]) || good != end || e != want {
				t.Errorf("P1.8: log %d cut at %d: %d bodies, %d, %d; want %d, %d, %d", k, cut, len(bodies), good, e, count, end, want)
			}
		}
	}
}

func TestScanOfCutsAroundTheLongestFrame(t *testing.T) {
	list := [][]byte{mixed(32768, 1), mixed(32768, 2)}
	b, size := logOf(t, list), 32768+8
	for _, c := range []struct {
		cut, count int
		want       api.Errno
	}{
		{size - 1, 0, api.ErrFrameCut},
		{size, 1, api.OK},
		{size + 1, 1, api.ErrFrameCut},
		{2*size - 1, 1, api.ErrFrameCut},
		{2 * size, 2, api.OK},
	} {
		bodies, good, e := Scan(b[:c.cut])
		if !sameBodies(bodies, list[:c.count]) || good != c.count*size || e != c.want {
			t.Errorf("P1.8: cut at %d: %d bodies, %d, %d", c.cut, len(bodies), good, e)
		}
	}
}

func TestScanJoins(t *testing.T) {
	spoilt := wrapped([]byte("spoilt"))
	spoilt[5] ^= 1
	ends := [][]byte{nil, {7}, {7, 7, 7, 7}, {0x00, 0x80, 0xFF, 0x7F}, spoilt, join(spoilt, wrapped(nil))}
	for _, list := range someBodies() {
		a := logOf(t, list)
		aBodies, aGood, e := Scan(a)
		if e != api.OK {
			t.Fatalf("P1.7: a whole log: error %d", e)
		}
		for _, more := range someBodies() {
			for _, end := range ends {
				b := join(logOf(t, more), end)
				bBodies, bGood, want := Scan(b)
				bodies, good, e := Scan(join(a, b))
				if !sameBodies(bodies, append(aBodies[:len(aBodies):len(aBodies)], bBodies...)) || good != aGood+bGood || e != want {
					t.Errorf("P1.10: %d and %d bodies, the end % X: %d bodies, %d, %d", len(aBodies), len(bBodies), end, len(bodies), good, e)
				}
			}
		}
	}
}
