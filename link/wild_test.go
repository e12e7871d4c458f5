package link_test

import (
	"fmt"
	"math"
	"slices"
	"testing"

	"eddy/api"
	"eddy/link"
	"eddy/pen"
)

// wildBytes draws bytes that are anything: of packets that were harmed, of frames of anything, and of no frame.
func (d *drawer) wildBytes() []byte {
	b := make([]byte, d.Below(40))
	for k := range b {
		b[k] = byte(pen.One(d.Pen, d.Below(256), 0, 0x41, 0x44, 0x80, 0xFF, 3, 1))
	}
	switch d.Below(10) {
	case 0:
		return nil
	case 1:
		return b
	case 2:
		return framed(b...)
	case 3:
		return framed(slices.Concat([]byte{dataByte}, b)...)
	case 4:
		return framed(slices.Concat([]byte{answerByte, 3}, b)...)
	case 5:
		return slices.Concat(d.data(3), b)
	case 6:
		return slices.Repeat([]byte{byte(d.Below(256))}, pen.One(d.Pen, 7, 8, 4096, 32768, 32776, 65535, 70000))
	case 7:
		return framed(make([]byte, d.Between(4000, 32768))...)
	}
	whole := pen.One(d.Pen, data(d.Below(26), d.near(3), d.message()), answer(d.Below(26), d.near(3), d.near(3)))
	for range d.Below(3) {
		whole[d.Below(len(whole))] = byte(d.Below(256))
	}
	return whole
}

// TestAnything: no call panics and each ends, whatever it is handed; and it answers as the second reading says.
func TestAnything(t *testing.T) {
	cases := map[string]int{}
	for seed := range 700 {
		d := &drawer{Pen: pen.Seeded(seed), lane: 3}
		window := d.Between(1, 16)
		var sends, takes []call
		for range 20 {
			b := d.wildBytes()
			probe(t, b)
			_, ok := understood(b)
			cases[fmt.Sprint("packet ", ok)]++
			sends = append(sends, call{what: pen.One(d.Pen, "put", "ack"), bytes: b})
			takes = append(takes, call{what: pen.One(d.Pen, "take", "take", "next", "tell"), bytes: b, word: pen.One(d.Pen, math.MinInt, math.MaxInt, -1, 0, 1, 1<<30, 1<<30+1, d.Below(100))})
		}
		playSender(t, 3, window, 0, sends)
		playReceiver(t, 3, window, 0, takes)
	}
	wantCases(t, cases, map[string]int{"packet true": 1000, "packet false": 7000})
}

// TestFarBeyond: bytes far beyond every limit.
func TestFarBeyond(t *testing.T) {
	huge := make([]byte, 1<<26)
	for k := range huge {
		huge[k] = dataByte
	}
	s, r := newSender(3, 16), newReceiver(3, 16)
	want(t, "P22.4: a huge message", s.Put(huge), api.ErrLinkLong)
	want(t, "P22.6: a huge answer", s.Ack(huge), api.ErrLinkPacket)
	_, e := r.Take(huge)
	want(t, "P22.9: a huge packet", e, api.ErrLinkPacket)
	copy(huge, data(3, 1, "a"))
	_, e = r.Take(huge)
	want(t, "P22.9: a packet with much behind it", e, api.ErrLinkPacket)
	if _, _, ok := link.Lane(huge); ok {
		t.Error("P22.2: a packet with much behind it is one")
	}
	wantSender(t, "behind huge ones", s, 0, 0, "")
	want(t, "behind huge ones", bodies(r.Answer()), "41030100")
}
