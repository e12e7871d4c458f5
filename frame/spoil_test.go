package frame

import (
	"testing"

	"eddy/api"
)

// turn turns count bits of b from bit from on where the pattern's bits, the lowest first, are 1.
func turn(b []byte, from, count int, pattern uint32) {
	for k := range count {
		if pattern>>k&1 == 1 {
			b[(from+k)/8] ^= 1 << ((from + k) % 8)
		}
	}
}

// patterns gives ways to turn bits within count neighbouring ones, the first and the last of them among the turned.
func patterns(count, seed int) []uint32 {
	edges := uint32(1) | 1<<(count-1)
	inner := ^uint32(0) >> (32 - count)
	list := []uint32{edges, inner}
	for _, c := range mixed(3, uint32(seed)) {
		list = append(list, (uint32(c)*0x9E3779B1&inner)|edges)
	}
	return list
}

func TestExactOfOneTurnedBit(t *testing.T) {
	for _, n := range []int{0, 1, 2, 3, 9, 128, 255, 256} {
		b := mustWrap(t, mixed(n, 19))
		for bit := range 8 * len(b) {
			want := api.ErrFrameSum
			if bit < 32 {
				want = api.ErrFrameHead
			}
			turn(b, bit, 1, 1)
			if body, e := Exact(b); e != want || len(body) != 0 {
				t.Errorf("P1.9: a body of %d bytes, bit %d turned: % X, %d; want %d", n, bit, body, e, want)
			}
			turn(b, bit, 1, 1)
		}
	}
}

func TestExactOfOneTurnedBitOfTheLongestFrame(t *testing.T) {
	b := mustWrap(t, mixed(32768, 23))
	last := 8*len(b) - 1
	for bit := range 8 * len(b) {
		if bit > 64 && bit%1009 != 0 && bit < last-64 {
			continue
		}
		want := api.ErrFrameSum
		if bit < 32 {
			want = api.ErrFrameHead
		}
		turn(b, bit, 1, 1)
		if body, e := Exact(b); e != want || len(body) != 0 {
			t.Errorf("P1.9: the longest body, bit %d turned: %d bytes, %d; want %d", bit, len(body), e, want)
		}
		turn(b, bit, 1, 1)
	}
}

func TestExactOfTurnedNeighbours(t *testing.T) {
	for _, n := range []int{0, 1, 2, 3, 4, 5, 9, 40} {
		b := mustWrap(t, mixed(n, 29))
		end := 8 * len(b)
		for from := 32; from < end; from++ {
			for count := 1; count <= 32 && from+count <= end; count++ {
				for _, pattern := range patterns(count, from) {
					turn(b, from, count, pattern)
					if body, e := Exact(b); e != api.ErrFrameSum || len(body) != 0 {
						t.Errorf("P1.9: a body of %d bytes, bits %d on by %08X: % X, %d", n, from, pattern, body, e)
					}
					turn(b, from, count, pattern)
				}
			}
		}
	}
}

func TestExactOfEveryPairOfTurnedNeighbours(t *testing.T) {
	for _, n := range []int{0, 1, 6} {
		b := mustWrap(t, mixed(n, 31))
		end := 8 * len(b)
		for from := 32; from < end; from++ {
			for other := from + 1; other < from+32 && other < end; other++ {
				turn(b, from, 1, 1)
				turn(b, other, 1, 1)
				if body, e := Exact(b); e != api.ErrFrameSum || len(body) != 0 {
					t.Errorf("P1.9: a body of %d bytes, bits %d and %d turned: % X, %d", n, from, other, body, e)
				}
				turn(b, from, 1, 1)
				turn(b, other, 1, 1)
			}
		}
	}
}

func TestExactOfTurnedNeighboursOfTheLongestFrame(t *testing.T) {
	b := mustWrap(t, mixed(32768, 37))
	end := 8 * len(b)
	for _, from := range []int{32, 33, 1000, 131072, end - 64, end - 40, end - 33, end - 32} {
		for _, count := range []int{2, 17, 31, 32} {
			for _, pattern := range patterns(count, from) {
				turn(b, from, count, pattern)
				if body, e := Exact(b); e != api.ErrFrameSum || len(body) != 0 {
					t.Errorf("P1.9: the longest body, bits %d on by %08X: %d bytes, %d", from, pattern, len(body), e)
				}
				turn(b, from, count, pattern)
			}
		}
	}
}
