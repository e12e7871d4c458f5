package frame

import (
	"hash/crc32"
	"testing"
)

// bitwise reckons a checksum as P1.1 and P1.2 tell it, bit by bit.
func bitwise(sum uint32, b []byte) uint32 {
	register := ^sum
	for _, c := range b {
		for bit := range 8 {
			unlike := uint32(c)>>bit&1 != register&1
			register >>= 1
			if unlike {
				register ^= 0xEDB88320
			}
		}
	}
	return ^register
}

// mixed gives n bytes that look like no pattern; the same n and seed give the same bytes.
func mixed(n int, seed uint32) []byte {
	b := make([]byte, n)
	x := seed*2654435761 + 1
	for k := range b {
		x ^= x << 13
		x ^= x >> 17
		x ^= x << 5
		b[k] = byte(x >> 11)
	}
	return b
}

func TestSumOfKnownBytes(t *testing.T) {
	for _, c := range []struct {
		text string
		want uint32
	}{
		{"", 0},
		{"123456789", 0xCBF43926},
		{"\x00", 0xD202EF8D},
		{"\x01", 0xA505DF1B},
		{"\xff", 0xFF000000},
		{"\x00\x00\x00\x00", 0x2144DF1C},
		{"\xff\xff\xff\xff", 0xFFFFFFFF},
	} {
		if got := Sum([]byte(c.text)); got != c.want {
			t.Errorf("P1.1: Sum(%q) = %08X, want %08X", c.text, got, c.want)
		}
	}
	if got := Sum(nil); got != 0 {
		t.Errorf("P1.1: Sum(nil) = %08X", got)
	}
}

func TestSumOfEveryByte(t *testing.T) {
	for k := range 256 {
		one, two := []byte{byte(k)}, []byte{0x5A, byte(k)}
		if got, want := Sum(one), bitwise(0, one); got != want {
			t.Errorf("P1.1: Sum(% X) = %08X, want %08X", one, got, want)
		}
		if got, want := Sum(two), bitwise(0, two); got != want {
			t.Errorf("P1.1: Sum(% X) = %08X, want %08X", two, got, want)
		}
	}
}

func TestSumOfLongBytes(t *testing.T) {
	for _, n := range []int{2, 3, 4, 5, 7, 8, 9, 63, 64, 65, 1000, 32768, 32769, 100000} {
		b := mixed(n, uint32(n))
		want := bitwise(0, b)
		if other := crc32.ChecksumIEEE(b); other != want {
			t.Fatalf("the test's own rule is no CRC: %08X, want %08X", want, other)
		}
		if got := Sum(b); got != want {
			t.Errorf("P1.1: Sum of %d bytes = %08X, want %08X", n, got, want)
		}
	}
}

func TestAddGoesOnFromEverySum(t *testing.T) {
	sums := []uint32{0, 1, 2, 0x7FFFFFFF, 0x80000000, 0xFFFFFFFE, 0xFFFFFFFF, 0xCBF43926, 0xEDB88320}
	for bit := range 32 {
		sums = append(sums, 1<<bit)
	}
	for _, sum := range sums {
		if got := Add(sum, nil); got != sum {
			t.Errorf("P1.2: Add(%08X, nil) = %08X", sum, got)
		}
		if got := Add(sum, []byte{}); got != sum {
			t.Errorf("P1.2: Add(%08X, no bytes) = %08X", sum, got)
		}
		for n := range 12 {
			b := mixed(n, sum)
			if got, want := Add(sum, b), bitwise(sum, b); got != want {
				t.Errorf("P1.2: Add(%08X, % X) = %08X, want %08X", sum, b, got, want)
			}
		}
	}
}

func TestAddJoinsSums(t *testing.T) {
	if got := Add(Sum([]byte("12345")), []byte("6789")); got != 0xCBF43926 {
		t.Errorf("P1.2: 12345 and 6789: %08X", got)
	}
	for _, n := range []int{0, 1, 2, 9, 40, 300} {
		b := mixed(n, 7)
		if got := Add(0, b); got != Sum(b) {
			t.Errorf("P1.2: Add(0, b) = %08X, Sum(b) = %08X", got, Sum(b))
		}
		for cut := range n + 1 {
			if got := Add(Sum(b[:cut]), b[cut:]); got != Sum(b) {
				t.Errorf("P1.2: %d bytes cut at %d: %08X, want %08X", n, cut, got, Sum(b))
			}
		}
	}
}
