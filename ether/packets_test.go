package ether_test

import (
	"fmt"
	"math"
	"slices"
	"strings"
	"testing"

	"eddy/api"
)

// noPacket: numbers that no packet has with so many in flight.
func noPacket(count int) []int {
	return []int{math.MinInt, math.MinInt + 1, -257, -256, -2, -1, count, count + 1, count + 255, count + 256, 1 << 32, 1<<32 + 1, math.MaxInt - 1, math.MaxInt}
}

// counts: how many packets are in flight in the tests of one call.
func counts() []int { return []int{0, 1, 2, 3, 7, 255, 256} }

// TestTakeOut: of each count, each packet; what stands ahead of it stays where it is, what stands behind moves up by one.
func TestTakeOut(t *testing.T) {
	for _, count := range counts() {
		for i := range count {
			rest := tellFilled(slices.Delete(upTo(0, count), i, i+1)...)
			e := filled(count)
			f, ok := e.Deliver(i)
			what := fmt.Sprintf("P23.3: Deliver(%d) of %d", i, count)
			want(t, what, tell(f), tellFilled(i))
			want(t, what, ok, true)
			want(t, what+": the rest", tellIn(e), rest)
			e = filled(count)
			what = fmt.Sprintf("P23.3: Drop(%d) of %d", i, count)
			want(t, what, e.Drop(i), true)
			want(t, what+": the rest", tellIn(e), rest)
		}
	}
}

func TestTakeOutNone(t *testing.T) {
	for _, count := range counts() {
		e := filled(count)
		for _, i := range noPacket(count) {
			f, ok := e.Deliver(i)
			what := fmt.Sprintf("P23.3: Deliver(%d) of %d", i, count)
			want(t, what, ok, false)
			if f.From != 0 || f.To != 0 || len(f.Data) != 0 {
				t.Errorf("%s: %s", what, tell(f))
			}
			want(t, fmt.Sprintf("P23.3: Drop(%d) of %d", i, count), e.Drop(i), false)
		}
		want(t, "P23.3: in flight behind them", tellIn(e), tellFilled(upTo(0, count)...))
	}
}

// TestAllOrders: five packets taken out in every order, by Deliver and by Drop in turns.
func TestAllOrders(t *testing.T) {
	runs := 0
	var take func(left []int, taken []int)
	take = func(left, taken []int) {
		if len(left) > 0 {
			for i := range left {
				take(slices.Delete(slices.Clone(left), i, i+1), append(slices.Clone(taken), i))
			}
			return
		}
		runs++
		e, now := filled(5), upTo(0, 5)
		for k, i := range taken {
			if k%2 == 0 {
				f, _ := e.Deliver(i)
				want(t, fmt.Sprintf("P23.3: Deliver %d in the order %v", k, taken), tell(f), tellFilled(now[i]))
			} else {
				want(t, fmt.Sprintf("P23.3: Drop %d in the order %v", k, taken), e.Drop(i), true)
			}
			now = slices.Delete(now, i, i+1)
			want(t, fmt.Sprintf("P23.3: behind call %d in the order %v", k, taken), tellIn(e), tellFilled(now...))
		}
	}
	take(upTo(0, 5), nil)
	want(t, "orders", runs, 120)
}

// TestCopy: of each packet, with From, To and the bytes as they are.
func TestCopy(t *testing.T) {
	for _, count := range counts() {
		for i := range count {
			e := filled(count)
			what := fmt.Sprintf("P23.4: Copy(%d) of %d", i, count)
			if count == 256 {
				want(t, what, e.Copy(i), api.ErrEtherFull)
				want(t, what, tellIn(e), tellFilled(upTo(0, count)...))
				continue
			}
			want(t, what, e.Copy(i), api.OK)
			want(t, what, tellIn(e), tellFilled(append(upTo(0, count), i)...))
		}
	}
}

// TestCopyNone: ErrEtherNone ahead of ErrEtherFull.
func TestCopyNone(t *testing.T) {
	for _, count := range counts() {
		e := filled(count)
		for _, i := range noPacket(count) {
			want(t, fmt.Sprintf("P23.4: Copy(%d) of %d", i, count), e.Copy(i), api.ErrEtherNone)
		}
		want(t, "P23.4: in flight behind it", tellIn(e), tellFilled(upTo(0, count)...))
	}
}

// TestCopyFlipped: a copy has the bytes as they are then; a Flip of the one leaves the other as it was.
func TestCopyFlipped(t *testing.T) {
	e := made(2)
	e.Send(0, 1, []byte{0, 0})
	e.Flip(0, 3)
	want(t, "P23.4: Copy", e.Copy(0), api.OK)
	want(t, "P23.4: of a packet that was flipped", tellIn(e), "0>1:0800 0>1:0800")
	e.Flip(1, 8)
	want(t, "P23.5: the copy is flipped", tellIn(e), "0>1:0800 0>1:0801")
	e.Flip(0, 3)
	want(t, "P23.5: the first one is flipped", tellIn(e), "0>1:0000 0>1:0801")
	want(t, "P23.4: Copy of a copy", e.Copy(1), api.OK)
	e.Flip(1, 15)
	want(t, "P23.5: the copied copy is flipped", tellIn(e), "0>1:0000 0>1:0881 0>1:0801")
	f, _ := e.Deliver(1)
	want(t, "P23.3: the copy", tell(f), "0>1:0881")
	e.Drop(0)
	e.Flip(0, 0)
	want(t, "P23.5: behind the first one's Drop", tellIn(e), "0>1:0901")
}

// TestFlip: each bit of packets of some lengths, among others; the same bit twice.
func TestFlip(t *testing.T) {
	for _, size := range []int{1, 2, 3, 9} {
		for bit := range 8 * size {
			for _, fill := range []byte{0x00, 0xff, 0x5a} {
				e := made(2)
				for range 3 {
					e.Send(0, 1, []byte(strings.Repeat(string([]byte{fill}), size)))
				}
				before := tellIn(e)
				turned := []byte(strings.Repeat(string([]byte{fill}), size))
				if place := bit / 8; turned[place]&(1<<(bit%8)) != 0 {
					turned[place] -= 1 << (bit % 8)
				} else {
					turned[place] += 1 << (bit % 8)
				}
				what := fmt.Sprintf("P23.5: Flip(1, %d) of %d bytes %02x", bit, size, fill)
				want(t, what, e.Flip(1, bit), true)
				l := e.List()
				want(t, what, tell(l[1]), fmt.Sprintf("0>1:%x", turned))
				want(t, what+": the others", tell(l[0], l[2]), before[:strings.LastIndex(before, " ")])
				want(t, what+" twice", e.Flip(1, bit), true)
				want(t, what+" twice", tellIn(e), before)
			}
		}
	}
}

// TestFlipNone: no such packet, no such bit.
func TestFlipNone(t *testing.T) {
	for _, count := range counts() {
		e := filled(count)
		for _, i := range noPacket(count) {
			for _, bit := range []int{-1, 0, 7, 8, 15, 16, math.MaxInt} {
				want(t, fmt.Sprintf("P23.5: Flip(%d, %d) of %d packets", i, bit, count), e.Flip(i, bit), false)
			}
		}
		for i := range count {
			for _, bit := range []int{math.MinInt, -16, -8, -7, -1, 16, 17, 23, 24, 1 << 32, math.MaxInt - 7, math.MaxInt} {
				want(t, fmt.Sprintf("P23.5: Flip(%d, %d) of two bytes", i, bit), e.Flip(i, bit), false)
			}
		}
		want(t, "P23.5: in flight behind it", tellIn(e), tellFilled(upTo(0, count)...))
	}
	e := made(2)
	e.Send(1, 0, nil)
	for _, bit := range []int{math.MinInt, -8, -1, 0, 1, 7, 8, math.MaxInt} {
		want(t, fmt.Sprintf("P23.5: Flip(0, %d) of no bytes", bit), e.Flip(0, bit), false)
	}
	want(t, "P23.5: a packet of no bytes", tellIn(e), "1>0:")
}

// TestFlipLongest: the last bit of the longest packet, and one above.
func TestFlipLongest(t *testing.T) {
	e := made(2)
	e.Send(1, 0, make([]byte, mostBytes))
	want(t, "P23.5: the bit above the last one", e.Flip(0, 8*mostBytes), false)
	want(t, "P23.5: the last bit", e.Flip(0, 8*mostBytes-1), true)
	want(t, "P23.5: the first bit", e.Flip(0, 0), true)
	want(t, "P23.5: the longest packet", tellIn(e), "1>0:01"+strings.Repeat("00", mostBytes-2)+"80")
}

// TestList: of nothing, of one, of 256; it changes nothing.
func TestList(t *testing.T) {
	for _, count := range counts() {
		e := filled(count)
		for range 3 {
			l := e.List()
			want(t, "P23.6: how many", len(l), count)
			want(t, fmt.Sprintf("P23.6: List of %d", count), tell(l...), tellFilled(upTo(0, count)...))
		}
	}
}
