package link_test

import (
	"fmt"
	"slices"
	"strconv"
	"strings"
	"testing"

	"eddy/api"
	"eddy/frame"
	"eddy/link"
)

// The chapter's numbers.
const (
	lanes       = 24
	mostWindow  = 16
	mostMessage = 4096
	mostNumber  = 1 << 30
	dataByte    = 0x44
	answerByte  = 0x41
)

// A sender is a sending end, or the model of one; so is a receiver.
type sender interface {
	Put(body []byte) api.Errno
	Tick() [][]byte
	Ack(packet []byte) api.Errno
	Open() int
	Word() int
}

type receiver interface {
	Take(packet []byte) ([]byte, api.Errno)
	Next() ([]byte, bool)
	Tell(word int)
	Answer() []byte
}

// hex reads bytes that are written as the chapter writes them.
func hex(text string) []byte {
	var b []byte
	for _, word := range strings.Fields(text) {
		n, err := strconv.ParseUint(word, 16, 8)
		if err != nil || len(word) != 2 {
			panic("no byte: " + word)
		}
		b = append(b, byte(n))
	}
	return b
}

// framed lays bytes in a frame.
func framed(body ...byte) []byte {
	b, e := frame.Wrap(body)
	if e != api.OK {
		panic("no frame")
	}
	return b
}

// layLong writes a number with so many groups, or with as many as it needs.
func layLong(n, groups int) []byte {
	b := []byte{byte(n % 128)}
	for n /= 128; n > 0 || len(b) < groups; n /= 128 {
		b[len(b)-1] |= 0x80
		b = append(b, byte(n%128))
	}
	return b
}

func lay(n int) []byte { return layLong(n, 1) }

func dataBody(lane, number int, message string) []byte {
	return slices.Concat([]byte{dataByte}, lay(lane), lay(number), []byte(message))
}

func answerBody(lane, next, word int) []byte {
	return slices.Concat([]byte{answerByte}, lay(lane), lay(next), lay(word))
}

func data(lane, number int, message string) []byte { return framed(dataBody(lane, number, message)...) }
func answer(lane, next, word int) []byte           { return framed(answerBody(lane, next, word)...) }

// turned gives bytes of which one bit is turned.
func turned(b []byte, bit int) []byte {
	b = slices.Clone(b)
	b[bit/8] ^= 1 << (bit % 8)
	return b
}

// newSender and newReceiver make ends that are possible.
func newSender(lane, window int) *link.Sender {
	s, e := link.NewSender(lane, window)
	if s == nil || e != api.OK {
		panic(fmt.Sprintf("P22.3: NewSender(%d, %d): %d", lane, window, e))
	}
	return s
}

func newReceiver(lane, window int) *link.Receiver {
	r, e := link.NewReceiver(lane, window)
	if r == nil || e != api.OK {
		panic(fmt.Sprintf("P22.8: NewReceiver(%d, %d): %d", lane, window, e))
	}
	return r
}

// bodies tells the bodies of packets.
func bodies(packets ...[]byte) string {
	var words []string
	for _, p := range packets {
		b, e := frame.Exact(p)
		if e != api.OK {
			words = append(words, fmt.Sprintf("no frame: % x", p))
			continue
		}
		words = append(words, fmt.Sprintf("%X", b))
	}
	return strings.Join(words, " ")
}

// drain gives all messages that are ready.
func drain(r receiver) []string {
	var all []string
	for {
		b, ok := r.Next()
		if !ok {
			return all
		}
		all = append(all, string(b))
	}
}

func want[T comparable](t *testing.T, what string, got, wanted T) {
	t.Helper()
	if got != wanted {
		t.Errorf("%s: %v, want %v", what, got, wanted)
	}
}

// wantCases fails if fewer cases came up than a test was made for.
func wantCases(t *testing.T, cases map[string]int, least map[string]int) {
	t.Helper()
	for name, n := range least {
		if cases[name] < n {
			t.Errorf("%s: %d cases, want %d at least", name, cases[name], n)
		}
	}
}
