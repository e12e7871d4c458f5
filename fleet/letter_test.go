package fleet_test

import (
	"bytes"
	"fmt"
	"strings"

	"eddy/api"
	"eddy/frame"
	"eddy/pen"
	"eddy/wire"
)

// A letter is what a packet says: of a data packet the lane, the message's number and the message, of an answer the lane, the number that is wanted and the word.
type letter struct {
	answer             bool
	lane, number, word int
	message            []byte
}

// groups writes a number in groups of seven bits.
func groups(n int) []byte {
	if n < 128 {
		return []byte{byte(n)}
	}
	return append([]byte{byte(n%128) + 128}, groups(n/128)...)
}

// leadGroups reads a number, whatever its form, and what is behind it.
func leadGroups(b []byte) (int, []byte) {
	n := 0
	for k := range min(len(b), 5) {
		n += int(b[k]%128) << (7 * k)
		if b[k] < 128 {
			return n, b[k+1:]
		}
	}
	return -1, nil
}

// packet writes a letter.
func (l letter) packet() []byte {
	body := append([]byte{0x44}, groups(l.lane)...)
	if l.answer {
		body[0] = 0x41
	}
	body = append(body, groups(l.number)...)
	if l.answer {
		body = append(body, groups(l.word)...)
	}
	b, e := frame.Wrap(append(body, l.message...))
	if e != api.OK {
		panic("a letter that is too long")
	}
	return b
}

// letterOf reads a packet; false: it is none.
func letterOf(packet []byte) (letter, bool) {
	body, e := frame.Exact(packet)
	if e != api.OK || len(body) == 0 {
		return letter{}, false
	}
	var l letter
	var left []byte
	l.answer = body[0] == 0x41
	l.lane, left = leadGroups(body[1:])
	l.number, left = leadGroups(left)
	if l.answer {
		l.word, left = leadGroups(left)
	}
	l.message = left
	if l.lane < 0 || l.number < 0 || l.word < 0 || !bytes.Equal(l.packet(), packet) {
		return letter{}, false
	}
	if l.lane > 23 || len(l.message) > 4096 || !l.answer && (l.number == 0 || l.number > 1<<30) {
		return letter{}, false
	}
	return l, !l.answer || len(left) == 0 && l.number <= 1<<30+1 && l.word <= 1<<30
}

// messageOf writes what goes into a remote lane.
func messageOf(x api.Item) []byte {
	if x.Mark > 0 {
		return append([]byte{77}, groups(x.Mark)...)
	}
	b, e := wire.PutRecord(x.Rec)
	if e != api.OK {
		panic("a record that isn't valid")
	}
	return append([]byte{82}, b...)
}

// itemOf reads a message; false: it is neither a marker nor a record.
func itemOf(message []byte) (api.Item, bool) {
	if len(message) == 0 {
		return api.Item{}, false
	}
	switch message[0] {
	case 77:
		id, left := leadGroups(message[1:])
		x := api.Item{Mark: id}
		return x, id > 0 && id < 10000 && len(left) == 0 && bytes.Equal(messageOf(x), message)
	case 82:
		r, e := wire.GetRecord(message[1:])
		return api.Item{Rec: r}, e == api.OK
	}
	return api.Item{}, false
}

// String writes a letter as `data 2.7 a=1`, `data 2.7 marker 5`, `data 2.7 52 01` (a message that is neither) or `answer 2 wants 7 word 3`.
func (l letter) String() string {
	if l.answer {
		return fmt.Sprintf("answer %d wants %d word %d", l.lane, l.number, l.word)
	}
	text := fmt.Sprintf("% x", l.message)
	switch x, ok := itemOf(l.message); {
	case ok && x.Mark > 0:
		text = fmt.Sprint("marker ", x.Mark)
	case ok:
		text = pen.TellRecord(x.Rec)
	}
	return strings.TrimSpace(fmt.Sprintf("data %d.%d %s", l.lane, l.number, text))
}

// readLetter reads a letter as String writes it.
func readLetter(text string) letter {
	var l letter
	if n, _ := fmt.Sscanf(text, "answer %d wants %d word %d", &l.lane, &l.number, &l.word); n == 3 {
		l.answer = true
		return l
	}
	if n, _ := fmt.Sscanf(text, "data %d.%d", &l.lane, &l.number); n != 2 {
		panic("no letter: " + text)
	}
	words := strings.SplitN(text, " ", 3)
	if len(words) < 3 {
		return l
	}
	l.message = readMessage(words[2])
	return l
}

// readMessage reads a marker, a record, or bytes.
func readMessage(text string) []byte {
	if id, ok := strings.CutPrefix(text, "marker "); ok {
		return messageOf(api.Item{Mark: pen.ReadNumber(id)})
	}
	if strings.Contains(text, "=") {
		return messageOf(api.Item{Rec: pen.ReadRecord(text)})
	}
	return hex(text)
}

// hex reads bytes, two digits each.
func hex(text string) []byte {
	var all []byte
	for _, word := range strings.Fields(text) {
		var b byte
		if n, _ := fmt.Sscanf(word, "%02x", &b); n != 1 || len(word) != 2 {
			panic("no byte: " + word)
		}
		all = append(all, b)
	}
	return all
}

// flightsTold writes packets in flight, as `0>1 data 2.7 a=1, 1>0 answer 2 wants 7 word 3, 0>1 spoilt`.
func flightsTold(all []api.Flight) string {
	var words []string
	for _, f := range all {
		text := "spoilt"
		if l, ok := letterOf(f.Data); ok {
			text = l.String()
		}
		words = append(words, fmt.Sprintf("%d>%d %s", f.From, f.To, text))
	}
	return strings.Join(words, ", ")
}

// bitsBetween gives the bits in which two packets of one length differ.
func bitsBetween(a, b []byte) []int {
	if len(a) != len(b) {
		panic(fmt.Sprintf("no flips make of % x the packet % x", a, b))
	}
	var all []int
	for k := range 8 * len(a) {
		if (a[k/8]^b[k/8])>>(k%8)%2 == 1 {
			all = append(all, k)
		}
	}
	return all
}
