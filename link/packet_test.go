package link_test

import (
	"slices"
	"strings"
	"testing"

	"eddy/api"
	"eddy/frame"
	"eddy/link"
	"eddy/pen"
)

// probe hands bytes to all calls that take a packet, at ends for which every packet of lane 3 would do, and tells whether they were refused as no packet.
func probe(t *testing.T, packet []byte) {
	t.Helper()
	s, isPacket := understood(packet)
	lane, isAnswer, ok := link.Lane(packet)
	if lane != s.lane || isAnswer != s.answer || ok != isPacket {
		t.Errorf("P22.2: Lane(% x): %d, %v, %v, want %d, %v, %v", head(packet), lane, isAnswer, ok, s.lane, s.answer, isPacket)
	}
	r := newReceiver(3, 16)
	_, wantTaken := refusal(packet, false, 3)
	got, e := r.Take(packet)
	if e != wantTaken || e != api.OK && len(got) > 0 {
		t.Errorf("P22.1, P22.9: Take(% x): % x, %d, want %d", head(packet), got, e, wantTaken)
	}
	if e == api.OK && s.number == 1 {
		if m, ok := r.Next(); !ok || string(m) != s.message {
			t.Errorf("P22.1, P22.10: the message of % x: %d bytes, %v", head(packet), len(m), ok)
		}
	}
	// Where all numbers are used up, every next number but 0 may be answered.
	end := link.SenderAt(3, 16, mostNumber)
	_, wantAck := refusal(packet, true, 3)
	if wantAck == api.OK && s.number == 0 {
		wantAck = api.ErrLinkNumber
	}
	if e := end.Ack(packet); e != wantAck || e == api.OK && end.Word() != s.word {
		t.Errorf("P22.1, P22.6: Ack(% x): %d, word %d, want %d, %d", head(packet), e, end.Word(), wantAck, s.word)
	}
}

func head(b []byte) []byte { return b[:min(len(b), 40)] }

// TestBodies: bodies that the chapter tells of, and what Lane says of each.
func TestBodies(t *testing.T) {
	none := said{lane: -1}
	q := func(n int) string { return strings.Repeat("q", n) }
	for _, c := range []struct {
		body []byte
		want said
	}{
		{hex("44 03 01"), said{lane: 3, number: 1}}, {hex("44 03 01 61"), said{lane: 3, number: 1, message: "a"}}, {hex("44 00 01 00"), said{number: 1, message: "\x00"}}, {hex("44 17 01"), said{lane: 23, number: 1}}, {hex("44 18 01"), none}, {hex("44 98 00 01"), none},
		{hex("44 00 00"), none}, {hex("44 00 00 61"), none}, {hex("44 03 80 00 61"), none}, {hex("44 03 81 00"), none}, {hex("44 83 00 01"), none}, {hex("44 03 7F"), said{lane: 3, number: 127}}, {hex("44 03 80 01"), said{lane: 3, number: 128}},
		{hex("44 03 80 80 80 80 04"), said{lane: 3, number: 1 << 30}}, {hex("44 03 81 80 80 80 04"), none}, {hex("44 03 FF FF FF FF 7F"), none}, {hex("44 03 FF FF FF FF FF 01"), none}, {hex("44 03 81 80 80 80 00"), none}, {hex("44 03 81 80 80 80 80 00"), none},
		{hex(""), none}, {hex("44"), none}, {hex("44 03"), none}, {hex("44 03 80"), none}, {hex("44 83"), none},
		{dataBody(3, 1, q(4096)), said{lane: 3, number: 1, message: q(4096)}}, {dataBody(3, 1, q(4097)), none}, {dataBody(23, 1<<30, q(4096)), said{lane: 23, number: 1 << 30, message: q(4096)}}, {dataBody(23, 1<<30, q(4097)), none}, {dataBody(3, 1, q(32765)), none},
		{hex("41 03 01 00"), said{answer: true, lane: 3, number: 1}}, {hex("41 03 00 00"), said{answer: true, lane: 3}}, {hex("41 00 00 00"), said{answer: true}}, {hex("41 17 02 07"), said{answer: true, lane: 23, number: 2, word: 7}}, {hex("41 18 02 07"), none},
		{hex("41 03 81 80 80 80 04 00"), said{answer: true, lane: 3, number: 1<<30 + 1}}, {hex("41 03 82 80 80 80 04 00"), none}, {hex("41 03 01 80 80 80 80 04"), said{answer: true, lane: 3, number: 1, word: 1 << 30}}, {hex("41 03 01 81 80 80 80 04"), none},
		{hex("41 03 02"), none}, {hex("41 03 02 00 00"), none}, {hex("41 83 00 02 00"), none}, {hex("41 03 82 00 00"), none}, {hex("41 03 02 80 00"), none}, {hex("41 03 02 87 00"), none}, {hex("41"), none}, {hex("41 03"), none}, {hex("41 03 02 80"), none}, {hex("41 03 80"), none}, {hex("41 80"), none},
		{hex("42 03 01 00"), none}, {hex("00 03 01 00"), none}, {hex("C4 03 01"), none}, {hex("C1 03 01 00"), none},
	} {
		packet := framed(c.body...)
		probe(t, packet)
		lane, answer, ok := link.Lane(packet)
		if c.want == none {
			if lane != 0 || answer || ok {
				t.Errorf("P22.2: % x is a packet: %d, %v, %v", head(c.body), lane, answer, ok)
			}
			continue
		}
		if lane != c.want.lane || answer != c.want.answer || !ok {
			t.Errorf("P22.2: % x: %d, %v, %v, want %d, %v", head(c.body), lane, answer, ok, c.want.lane, c.want.answer)
		}
		if s, ok := understood(packet); s != c.want || !ok {
			t.Errorf("the second reading of % x: %v, %v", head(c.body), s, ok)
		}
	}
}

// TestCutAndBehind: bodies of each kind, cut at each byte, and with bytes behind; frames of them, too.
func TestCutAndBehind(t *testing.T) {
	for _, body := range [][]byte{
		hex("44 03 01"), hex("44 03 01 61 62 63"), dataBody(3, 300, "abc"), dataBody(3, 1<<30, strings.Repeat("m", 4095)), hex("41 03 01 00"), answerBody(3, 1<<30+1, 1<<30), answerBody(3, 129, 16384),
	} {
		for cut := range len(body) + 1 {
			probe(t, framed(body[:cut]...))
		}
		packet := framed(body...)
		for cut := range len(packet) {
			if _, ok := understood(packet[:cut]); ok {
				t.Errorf("P22.1: a packet that is cut is one: % x", head(packet[:cut]))
			}
			probe(t, packet[:cut])
		}
		for behind := range 256 {
			probe(t, framed(slices.Concat(body, []byte{byte(behind)})...))
			probe(t, slices.Concat(packet, []byte{byte(behind)}))
			probe(t, slices.Concat([]byte{byte(behind)}, packet))
		}
		probe(t, slices.Concat(packet, packet))
	}
}

// TestFirstBytes: each first byte, with what stands behind a data packet's and an answer's.
func TestFirstBytes(t *testing.T) {
	for first := range 256 {
		for _, rest := range []string{"", "03", "03 01", "03 01 00", "03 01 00 00", "00 00 00", "17 05 7F"} {
			packet := framed(slices.Concat([]byte{byte(first)}, hex(rest))...)
			probe(t, packet)
			if _, _, ok := link.Lane(packet); ok && first != dataByte && first != answerByte {
				t.Errorf("P22.1: the first byte %02x is a packet's", first)
			}
		}
	}
}

// TestNumbers: every mixture of lanes, numbers and words at their edges, each as short as it can be and longer, with bytes behind.
func TestNumbers(t *testing.T) {
	var forms [][]byte
	for _, n := range []int{0, 1, 2, 23, 24, 127, 128, 1<<30 - 1, 1 << 30, 1<<30 + 1, 1<<30 + 2, 1<<31 - 1, 1 << 31, 1 << 32, 1<<32 + 1, 1<<35 - 1, 1 << 35, 1<<42 + 3} {
		for groups := 1; groups <= 7; groups++ {
			if b := layLong(n, groups); groups == 1 || len(b) == groups {
				forms = append(forms, b)
			}
		}
	}
	if len(forms) < 60 {
		t.Fatalf("%d forms", len(forms))
	}
	packets := 0
	for _, kind := range []byte{dataByte, answerByte} {
		for _, lane := range forms {
			for _, number := range forms {
				for _, behind := range []string{"", "00", "07", "80 80 80 80 04", "81 80 80 80 04", "00 00", "80 00"} {
					packet := framed(slices.Concat([]byte{kind}, lane, number, hex(behind))...)
					probe(t, packet)
					if _, ok := understood(packet); ok {
						packets++
					}
				}
			}
		}
	}
	if packets < 300 {
		t.Errorf("%d packets among them", packets)
	}
}

// TestShortBodies: all bodies of up to five bytes out of those that mean something.
func TestShortBodies(t *testing.T) {
	cases := map[string]int{}
	for count := range 6 {
		for body := range pen.Rows([]byte{0x00, 0x01, 0x03, 0x17, 0x18, 0x41, 0x44, 0x7F, 0x80, 0x83, 0xFF}, count) {
			packet := framed(body...)
			probe(t, packet)
			if s, ok := understood(packet); ok && s.answer {
				cases["answer"]++
			} else if ok {
				cases["data"]++
			}
		}
	}
	wantCases(t, cases, map[string]int{"answer": 300, "data": 3000})
}

// TestFrames: what frame.Exact refuses is no packet, whatever stands within.
func TestFrames(t *testing.T) {
	for _, body := range [][]byte{hex("44 03 01 61"), hex("41 03 01 00")} {
		packet := framed(body...)
		for k := range packet {
			for c := range 256 {
				b := slices.Clone(packet)
				b[k] = byte(c)
				probe(t, b)
			}
			probe(t, slices.Delete(slices.Clone(packet), k, k+1))
			probe(t, slices.Insert(slices.Clone(packet), k, packet[k]))
		}
		probe(t, body)
		probe(t, framed(packet...))
	}
	for _, b := range [][]byte{nil, {}, make([]byte, 8), framed(), framed(0), hex("44"), hex("00 00 FF FF 00 00 00"), hex("01 80 FE 7F"), make([]byte, 40000), framed(make([]byte, 32768)...), slices.Repeat([]byte{dataByte}, 32776)} {
		probe(t, b)
		if _, _, ok := link.Lane(b); ok {
			t.Errorf("P22.2: % x is a packet", head(b))
		}
	}
}

// TestBitsOfPackets: P22.14: a packet of which one bit is turned is none.
func TestBitsOfPackets(t *testing.T) {
	for _, packet := range [][]byte{
		data(0, 1, ""), data(3, 1, "hello"), data(23, 1<<30, strings.Repeat("\x44", 200)), data(3, 5, string(answer(3, 1, 0))), answer(0, 1, 0), answer(3, 2, 7), answer(23, 1<<30+1, 1<<30), data(3, 1, strings.Repeat("A", 4096)),
	} {
		s, r := link.SenderAt(3, 16, mostNumber), newReceiver(3, 16)
		for bit := range 8 * len(packet) {
			spoilt := turned(packet, bit)
			if _, _, ok := link.Lane(spoilt); ok {
				t.Errorf("P22.14: % x is a packet", head(spoilt))
			}
			if got, e := r.Take(spoilt); e != api.ErrLinkPacket || len(got) > 0 {
				t.Errorf("P22.14: Take(% x): %d", head(spoilt), e)
			}
			if e := s.Ack(spoilt); e != api.ErrLinkPacket {
				t.Errorf("P22.14: Ack(% x): %d", head(spoilt), e)
			}
		}
		want(t, "P22.14: the answer behind turned bits", bodies(r.Answer()), "41030100")
		want(t, "P22.14: the word behind turned bits", s.Word(), 0)
	}
}

// TestWholePackets: what both ends tell are packets in frames with nothing behind.
func TestWholePackets(t *testing.T) {
	for _, lane := range []int{0, 1, 23} {
		for _, before := range []int{0, 126, 127, 1<<30 - 2} {
			s := link.SenderAt(lane, 2, before)
			for _, m := range []string{"a", strings.Repeat("b", 4096)} {
				want(t, "P22.4: Put", s.Put([]byte(m)), api.OK)
			}
			got := s.Tick()
			want(t, "P22.1: packets", bodies(got...), bodies(data(lane, before+1, "a"), data(lane, before+2, strings.Repeat("b", 4096))))
			r := link.ReceiverAt(lane, 2, before)
			r.Tell(before)
			want(t, "P22.1: an answer", bodies(r.Answer()), bodies(answer(lane, before+1, before)))
			for _, p := range append(got, r.Answer()) {
				if _, e := frame.Exact(p); e != api.OK {
					t.Errorf("P22.1: no frame: % x", head(p))
				}
			}
		}
	}
}
