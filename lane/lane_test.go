package lane_test

import (
	"math"
	"strings"
	"testing"

	"eddy/api"
	"eddy/lane"
)

// some gives n different words of records.
func some(n int) string {
	return strings.Join(strings.Split("abcdefghijklmnopqrstuvwxyz"[:n], ""), " ")
}

func TestRoomsThatMayNotBe(t *testing.T) {
	for _, room := range []int{-1, 9, -8, 10, 256, math.MinInt, math.MaxInt, math.MinInt + 8, 1 << 32} {
		if l, e := lane.New(room); l != nil || e != api.ErrLaneRoom {
			t.Errorf("P5.1: New(%d) answers %v, error %d", room, l, e)
		}
	}
}

func TestANewLaneIsEmptyAndOpen(t *testing.T) {
	for room := range api.MaxCap + 1 {
		l := made(t, "P5.1", room)
		l.isEmpty()
		l.puts("a", 1, api.OK)
		l.takes("a")
		l.isEmpty()
		l.closes("")
	}
}

func TestALaneIsFullAtItsRoom(t *testing.T) {
	for room := 1; room <= api.MaxCap; room++ {
		l := made(t, "P5.1", room)
		for k := range room {
			l.fullIs(false)
			l.puts(some(k + 1)[2*k:], 1, api.OK)
		}
		l.fullIs(true)
		l.puts("z", 0, api.ErrLaneFull)
		l.fullIs(true)
		l.lists(some(room))
		l.takes("a")
		l.fullIs(false)
		l.puts("z", 1, api.OK)
		l.fullIs(true)
		l.takes(some(room)[1:] + " z")
		l.isEmpty()
	}
}

func TestMarkersAreNotCounted(t *testing.T) {
	l := holding(t, "P5.1", 2, "1 2 a 3 4")
	l.fullIs(false)
	l.puts("b", 1, api.OK)
	l.fullIs(true)
	l.takes("1 2")
	l.fullIs(true)
	l.pulls(3, "a")
	l.fullIs(true)
	l.takes("a")
	l.fullIs(false)
	l.takes("4 b")
	l.isEmpty()
}

func TestTwoLanesAreApart(t *testing.T) {
	one, other := holding(t, "P5.1", 1, "a 1"), made(t, "P5.1", 1)
	other.isEmpty()
	other.puts("b", 1, api.OK)
	one.closes("a 1")
	other.lists("b")
	other.fullIs(true)
}

func TestALaneOfNoBoundIsNeverFull(t *testing.T) {
	const many = 1 << 18
	l := made(t, "P5.1", 0)
	for k := range many {
		if n, e := l.Put(api.Item{Mark: k % 3}, api.Item{Rec: api.Record{Loops: []int{k}}}); n != 2 || e != api.OK || l.Full() {
			t.Fatalf("P5.1: Put of items %d answers %d, error %d; Full: %v", 2*k, n, e, l.Full())
		}
	}
	if all := l.List(); len(all) != 2*many {
		t.Fatalf("P5.6: List answers %d items, want %d", len(all), 2*many)
	}
	for k := range many {
		first, _ := l.Peek()
		head, _ := l.Take()
		if second, ok := l.Take(); !ok || first.Mark != k%3 || head.Mark != k%3 || len(second.Rec.Loops) != 1 || second.Rec.Loops[0] != k {
			t.Fatalf("P5.3: items %d come out as %v, %v, %v", 2*k, first, head, second)
		}
	}
	l.isEmpty()
}

func TestOneCallPutsVeryMany(t *testing.T) {
	all := make([]api.Item, 1<<17)
	for k := range all {
		all[k].Mark = k % 5
	}
	l := made(t, "P5.2", 0)
	if n, e := l.Put(all...); n != len(all) || e != api.OK {
		t.Fatalf("P5.2: Put of %d items answers %d, error %d", len(all), n, e)
	}
	if n, ahead := l.Pull(); n != 1 || len(ahead) != 1 {
		t.Errorf("P5.4: Pull answers %d and %d records", n, len(ahead))
	}
	out := l.Close()
	if len(out) != len(all)-1 || !same(out[1:1000], all[2:1001]) {
		t.Errorf("P5.7: Close answers %d items, want %d", len(out), len(all)-1)
	}
}

func TestPutOfNoItems(t *testing.T) {
	open := holding(t, "P5.2", 1, "a")
	open.puts("", 0, api.OK)
	open.lists("a")
	shut := holding(t, "P5.2", 1, "a")
	shut.Close()
	shut.puts("", 0, api.OK)
	if n, e := shut.Put([]api.Item{}...); n != 0 || e != api.OK {
		t.Errorf("P5.2: Put of an empty list, of a closed lane, answers %d, error %d", n, e)
	}
	shut.isEmpty()
}

// TestPutStopsWhereAnItemCannotBeLaid: neither that item nor one behind it, not even a marker, is laid.
func TestPutStopsWhereAnItemCannotBeLaid(t *testing.T) {
	for _, c := range []struct {
		room         int
		before, in   string
		laid         int
		reason       api.Errno
		after, lists string
	}{
		{2, "", "a b c 1 d", 2, api.ErrLaneFull, "5", "a b 5"},
		{2, "", "a 1 b 2 c 3", 4, api.ErrLaneFull, "5", "a 1 b 2 5"},
		{1, "a", "1 2 b 3", 2, api.ErrLaneFull, "", "a 1 2"},
		{1, "a", "b 1", 0, api.ErrLaneFull, "", "a"},
		{8, some(7), "x y 1", 1, api.ErrLaneFull, "", some(7) + " x"},
		{0, "", "a -1 b 1", 1, api.ErrLaneItem, "c", "a c"},
		{3, "", "a 1 -7 2", 2, api.ErrLaneItem, "b", "a 1 b"},
		{3, "", "-1", 0, api.ErrLaneItem, "b", "b"},
		{3, "", "-9223372036854775808 a", 0, api.ErrLaneItem, "", ""},
		// Two reasons: that of the first item which can't be laid, and of one item ErrLaneItem alone, since it is no record.
		{1, "a", "-1 b", 0, api.ErrLaneItem, "", "a"},
		{1, "a", "b -1", 0, api.ErrLaneFull, "", "a"},
		{1, "", "a -1 b", 1, api.ErrLaneItem, "", "a"},
		{1, "", "a b -1", 1, api.ErrLaneFull, "", "a"},
		{0, "", "-1 -2", 0, api.ErrLaneItem, "", ""},
	} {
		l := holding(t, "P5.2", c.room, c.before)
		l.puts(c.in, c.laid, c.reason)
		l.puts(c.after, len(items(c.after)), api.OK)
		l.lists(c.lists)
		l.takes(c.lists)
		l.isEmpty()
	}
}

func TestAnItemBelowZeroWithARecord(t *testing.T) {
	l := holding(t, "P5.2", 1, "a")
	if n, e := l.Put(marker(3), api.Item{Mark: -1, Rec: rec("b")}, marker(4)); n != 1 || e != api.ErrLaneItem {
		t.Errorf("P5.2: Put of an item of Mark -1 into a full lane answers %d, error %d", n, e)
	}
	l.lists("a 3")
}

func TestPutIntoAClosedLane(t *testing.T) {
	for _, room := range []int{0, 1, 8} {
		for _, before := range []string{"", "a", "1"} {
			l := holding(t, "P5.2", room, before)
			l.Close()
			for _, in := range []string{"a", "1", "-1", "-1 a", "a -1", "1 2 3", some(9)} {
				l.puts(in, 0, api.ErrLaneShut)
			}
			l.isEmpty()
		}
	}
}

func TestAMarkersRecordIsLeftBehind(t *testing.T) {
	with := api.Item{Mark: 4, Rec: api.Record{Key: "lost", Val: list(num(1)), Loops: []int{1}}}
	l := made(t, "P5.9", 1)
	for range 5 {
		if n, e := l.Put(with); n != 1 || e != api.OK {
			t.Errorf("P5.9: Put of a marker with a record answers %d, error %d", n, e)
		}
	}
	l.fullIs(false)
	l.lists("4 4 4 4 4")
	l.peeks("4")
	l.takes("4")
	l.pulls(4, "")
	l.puts("a", 1, api.OK)
	l.closes("4 4 4 a")
	if with.Rec.Key != "lost" || len(with.Rec.Loops) != 1 {
		t.Errorf("P5.9: Put changes a marker's record: %s", shown(with))
	}
}

func TestTakeTakesTheOldest(t *testing.T) {
	l := holding(t, "P5.3", 0, "a 1 b 2 2 1 c")
	l.takes("a 1 b")
	l.puts("d 3", 2, api.OK)
	l.lists("2 2 1 c d 3")
	l.takes("2 2 1 c d 3")
	l.isEmpty()
	l.puts("e", 1, api.OK)
	l.takes("e")
	l.isEmpty()
}

func TestPeekTakesNothingOut(t *testing.T) {
	l := holding(t, "P5.3", 2, "a 1 b")
	for _, first := range []string{"a", "1", "b"} {
		l.peeks(first)
		l.peeks(first)
		l.takes(first)
	}
	l.isEmpty()
}

// TestPeekAheadOfEveryOtherCall: what was looked at is still there, is still the oldest, and is still counted.
func TestPeekAheadOfEveryOtherCall(t *testing.T) {
	for _, in := range []string{"a", "a b", "a 1 b", "1 a b", "1 2", "1"} {
		full := len(records(strings.Map(onlyLetters, in))) == 2
		after := func() tried {
			l := holding(t, "P5.3", 2, in)
			l.peeks(in[:1])
			return l
		}
		after().fullIs(full)
		after().lists(in)
		after().closes(in)
		l := after()
		l.refills("x y", api.OK)
		l.lists("x y " + in)
		l = after()
		l.puts("7 8 9", 3, api.OK)
		l.takes(in + " 7 8 9")
		l = after()
		if full {
			l.puts("z", 0, api.ErrLaneFull)
		}
		other := holding(t, "P5.3", 2, in)
		number, ahead := other.Pull()
		l.pulls(number, wordsOf(ahead))
		l.lists(words(other.List()))
		l.takes(words(other.List()))
		l.isEmpty()
	}
}

func onlyLetters(r rune) rune {
	if r >= 'a' && r <= 'z' {
		return r
	}
	return ' '
}

func TestPull(t *testing.T) {
	for _, c := range []struct {
		in     string
		number int
		ahead  string
		stays  string
	}{
		{"", 0, "", ""},
		{"a", 0, "", "a"},
		{"a b c", 0, "", "a b c"},
		{"1", 1, "", ""},
		{"3 2 1", 3, "", "2 1"},
		{"5 5", 5, "", "5"},
		{"a 1", 1, "a", "a"},
		{"a b 1", 1, "a b", "a b"},
		{"1 a b", 1, "", "a b"},
		{"a 1 b", 1, "a", "a b"},
		{"a b 9 c 4 d 9 e", 9, "a b", "a b c 4 d 9 e"},
		{"a a 2 a 2", 2, "a a", "a a a 2"},
		{"9223372036854775807 a", math.MaxInt, "", "a"},
	} {
		l := holding(t, "P5.4", 0, c.in)
		l.pulls(c.number, c.ahead)
		l.lists(c.stays)
		l.takes(c.stays)
		l.isEmpty()
	}
}

func TestPullTillNoMarkerIsLeft(t *testing.T) {
	l := holding(t, "P5.4", 3, "a 1 b 2 c 3")
	l.pulls(1, "a")
	l.lists("a b 2 c 3")
	l.fullIs(true)
	l.takes("a")
	l.fullIs(false)
	l.pulls(2, "b")
	l.puts("d 4", 2, api.OK)
	l.pulls(3, "b c")
	l.pulls(4, "b c d")
	l.pulls(0, "")
	l.pulls(0, "")
	l.fullIs(true)
	l.takes("b c d")
	l.isEmpty()
}

func TestRefillLaysAtTheFront(t *testing.T) {
	for _, c := range []struct {
		room          int
		in, refill, a string
	}{
		{0, "", "", ""}, {0, "a 1", "", "a 1"}, {1, "a", "", "a"},
		{0, "", "x", "x"}, {0, "", "x y z", "x y z"}, {0, "a 1 b", "x y", "x y a 1 b"},
		{1, "a 1", "x", "x a 1"}, {2, "1 a", "x y z", "x y z 1 a"}, {8, some(8), some(9), some(9) + " " + some(8)},
		{3, "1 2 3", "x", "x 1 2 3"},
	} {
		l := holding(t, "P5.5", c.room, c.in)
		l.refills(c.refill, api.OK)
		l.lists(c.a)
		l.refills("w", api.OK)
		l.peeks("w")
		l.takes("w " + c.a)
		l.isEmpty()
	}
}

func TestRefillBeyondTheRoom(t *testing.T) {
	for room := range api.MaxCap + 1 {
		l := made(t, "P5.5", room)
		l.refills(some(20), api.OK)
		for left := 20; left > 0; left-- {
			l.fullIs(room > 0 && left >= room)
			if l.Full() {
				l.puts("z", 0, api.ErrLaneFull)
				l.puts("5", 1, api.OK)
				l.pulls(5, some(20)[2*(20-left):])
			}
			l.takes(some(20)[2*(20-left):][:1])
		}
		l.isEmpty()
		l.puts("z", 1, api.OK)
		l.takes("z")
	}
}

func TestRefillKeepsAMarkerInItsPlace(t *testing.T) {
	l := holding(t, "P5.5", 1, "a 4 5")
	l.refills("x y", api.OK)
	l.pulls(4, "x y a")
	l.refills("w", api.OK)
	l.pulls(5, "w x y a")
	l.takes("w x y")
	l.fullIs(true)
	l.takes("a")
	l.fullIs(false)
}

func TestRefillOfAClosedLane(t *testing.T) {
	l := holding(t, "P5.5", 1, "a")
	l.Close()
	for _, in := range []string{"", "x", "x y z"} {
		l.refills(in, api.ErrLaneShut)
	}
	if e := l.Refill([]api.Record{}); e != api.ErrLaneShut {
		t.Errorf("P5.5: Refill of an empty list, of a closed lane, answers error %d", e)
	}
	l.isEmpty()
}

func TestListChangesNothing(t *testing.T) {
	l := holding(t, "P5.6", 2, "a 1 b 2")
	for range 3 {
		l.lists("a 1 b 2")
		l.fullIs(true)
	}
	l.takes("a")
	for range 3 {
		l.lists("1 b 2")
		l.fullIs(false)
	}
	l.puts("c d", 1, api.ErrLaneFull)
	l.takes("1 b 2 c")
}

func TestCloseAnswersWhatWasLeft(t *testing.T) {
	for _, c := range []struct{ in, refill, taken, left string }{
		{"", "", "", ""}, {"a", "", "", "a"}, {"1", "", "", "1"}, {"a 1 b", "", "", "a 1 b"}, {"a 1 b", "", "a", "1 b"}, {"a 1 b", "x y", "", "x y a 1 b"}, {"a 1", "x y", "x y a", "1"}, {"a", "", "a", ""},
	} {
		for _, room := range []int{0, 2, 8} {
			l := holding(t, "P5.7", room, c.in)
			l.refills(c.refill, api.OK)
			l.takes(c.taken)
			l.closes(c.left)
			l.isEmpty()
			l.closes("")
			l.puts("a", 0, api.ErrLaneShut)
			l.refills("a", api.ErrLaneShut)
			l.closes("")
			l.isEmpty()
		}
	}
}

func TestAClosedLaneIsNotFull(t *testing.T) {
	for room := 1; room <= api.MaxCap; room++ {
		l := holding(t, "P5.6", room, some(room))
		l.refills("x y", api.OK)
		l.fullIs(true)
		l.closes("x y " + some(room))
		l.fullIs(false)
		l.puts("a", 0, api.ErrLaneShut)
		l.fullIs(false)
	}
}

func TestMarkersAlwaysFindRoom(t *testing.T) {
	for room := 1; room <= api.MaxCap; room++ {
		l := holding(t, "P5.9", room, some(room))
		for k := 1; k <= 500; k++ {
			if n, e := l.Put(marker(k)); n != 1 || e != api.OK {
				t.Fatalf("P5.9: Put of marker %d into a full lane of room %d answers %d, error %d", k, room, n, e)
			}
		}
		l.refills("x", api.OK)
		l.puts("501 502", 2, api.OK)
		l.pulls(1, "x "+some(room))
		l.takes("x " + some(room))
		for k := 2; k <= 502; k++ {
			if x, ok := l.Take(); !ok || x.Mark != k {
				t.Fatalf("P5.8: marker %d comes out as %s, %v", k, shown(x), ok)
			}
		}
	}
}

// TestARefusedRecordLeavesNoTrace: two lanes are told the same, but one of them also what it refuses.
func TestARefusedRecordLeavesNoTrace(t *testing.T) {
	for room := 1; room <= api.MaxCap; room++ {
		plain, refusing := holding(t, "P5.9", room, some(room)), holding(t, "P5.9", room, some(room))
		for range 50 {
			refusing.puts("z y", 0, api.ErrLaneFull)
		}
		for _, l := range []tried{plain, refusing} {
			l.lists(some(room))
			l.puts("3", 1, api.OK)
			l.pulls(3, some(room))
			l.takes("a")
			l.fullIs(false)
			l.puts("z z", 1, api.ErrLaneFull)
			l.closes(strings.TrimSpace(some(room)[1:] + " z"))
		}
	}
}

func TestTheExamples(t *testing.T) {
	l := made(t, "Example 1", 2)
	l.puts("a b c", 2, api.ErrLaneFull)
	l.puts("7", 1, api.OK)
	l.puts("8 c", 1, api.ErrLaneFull)
	l.lists("a b 7 8")
	l.promise = "Example 2"
	l.pulls(7, "a b")
	l.pulls(8, "a b")
	l.pulls(0, "")
	l.takes("a")
	l = made(t, "Example 3", 1)
	l.refills("x y z", api.OK)
	for _, key := range []string{"x", "y", "z"} {
		l.fullIs(true)
		l.takes(key)
	}
	l.fullIs(false)
}
