package frame

import (
	"bytes"
	"testing"

	"eddy/api"
)

// roomy lays b into a larger array and gives the whole of it and the piece that holds b, with spare room behind.
func roomy(b []byte) ([]byte, []byte) {
	whole := bytes.Repeat([]byte{0xA5}, len(b)+64)
	copy(whole[16:], b)
	return whole, whole[16 : 16+len(b)]
}

// scribble writes into b and all its spare room.
func scribble(b []byte) {
	b = b[:cap(b)]
	for k := range b {
		b[k] ^= 0xFF
	}
}

// calls gives, by name, each call of the package that answers bytes, its answer as lists.
func calls() map[string]func([]byte) [][]byte {
	return map[string]func([]byte) [][]byte{
		"Wrap":   func(b []byte) [][]byte { got, _ := Wrap(b); return [][]byte{got} },
		"Unwrap": func(b []byte) [][]byte { got, _, _ := Unwrap(b); return [][]byte{got} },
		"Exact":  func(b []byte) [][]byte { got, _ := Exact(b); return [][]byte{got} },
		"Scan":   func(b []byte) [][]byte { got, _, _ := Scan(b); return got },
	}
}

// arguments gives bytes of each kind: one frame, a log, a torn log, a spoilt one, no bytes.
func arguments() [][]byte {
	a, bc := wrapped([]byte("abc")), wrapped([]byte("defghijkl"))
	spoilt := join(a, bc)
	spoilt[len(a)+5] ^= 1
	return [][]byte{nil, a, join(a, wrapped(nil), bc, a), join(a, bc)[:len(a)+9], spoilt, wrapped(mixed(32768, 1))}
}

func clones(lists [][]byte) [][]byte {
	var out [][]byte
	for _, b := range lists {
		out = append(out, bytes.Clone(b))
	}
	return out
}

func TestArgumentsStayAndAreNotKept(t *testing.T) {
	for name, call := range calls() {
		for k, b := range arguments() {
			whole, arg := roomy(b)
			before := bytes.Clone(whole)
			answer := call(arg)
			if !bytes.Equal(whole, before) {
				t.Errorf("%s changes argument %d", name, k)
			}
			want := clones(answer)
			for _, list := range answer {
				scribble(list)
			}
			if !bytes.Equal(whole, before) {
				t.Errorf("%s: an answer shares memory with argument %d", name, k)
			}
			answer = call(arg)
			scribble(whole)
			if !sameBodies(answer, want) {
				t.Errorf("%s: the answer hangs on argument %d after the call", name, k)
			}
		}
	}
}

func TestSumAndAddLeaveTheirArgument(t *testing.T) {
	for k, b := range arguments() {
		whole, arg := roomy(b)
		before := bytes.Clone(whole)
		Sum(arg)
		Add(7, arg)
		if !bytes.Equal(whole, before) {
			t.Errorf("Sum or Add changes argument %d", k)
		}
	}
}

func TestAnswersShareNoMemory(t *testing.T) {
	for name, call := range calls() {
		for k, b := range arguments() {
			first, second := call(b), call(b)
			want := clones(second)
			for _, list := range first {
				scribble(list)
			}
			if !sameBodies(second, want) {
				t.Errorf("%s: two answers of argument %d share memory", name, k)
			}
			if later := call(b); !sameBodies(later, want) {
				t.Errorf("%s: a later answer of argument %d is touched", name, k)
			}
		}
	}
}

func TestListsOfOneAnswerShareNoMemory(t *testing.T) {
	b := join(wrapped([]byte("abc")), wrapped(nil), wrapped([]byte("def")), wrapped([]byte("ghijkl")))
	_, _, e := Scan(b)
	if e != api.OK {
		t.Fatalf("P1.7: error %d", e)
	}
	for k := range 4 {
		bodies, _, _ := Scan(b)
		want := clones(bodies)
		scribble(bodies[k])
		_ = append(bodies[k], "spare room"...)
		for other := range bodies {
			if other != k && !bytes.Equal(bodies[other], want[other]) {
				t.Errorf("Scan: bodies %d and %d share memory", k, other)
			}
		}
	}
}

func TestSpareRoomOfScansListIsItsOwn(t *testing.T) {
	b := join(wrapped([]byte("a")), wrapped([]byte("b")), wrapped([]byte("c")), wrapped([]byte("d")), wrapped([]byte("e")))
	first, _, _ := Scan(b)
	second, _, _ := Scan(b)
	want := clones(second)
	first = first[:cap(first)]
	for k := range first {
		first[k] = []byte("x")
	}
	if !sameBodies(second, want) {
		t.Errorf("Scan: the lists of two answers share memory")
	}
	spare := second[len(second):cap(second)]
	for k := range spare {
		if string(spare[k]) == "x" {
			t.Errorf("Scan: the spare room of two answers is shared")
		}
	}
}
