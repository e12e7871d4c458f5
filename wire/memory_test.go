package wire_test

import (
	"bytes"
	"reflect"
	"sort"
	"testing"
	"unsafe"

	"eddy/api"
)

// roomy gives a copy of thing in which every list has spare room behind it, filled with marks, and every text stands in bytes of its own; scribble can write into all of it.
func roomy(thing any) any {
	return roomyCopy(reflect.ValueOf(thing)).Interface()
}

func roomyCopy(v reflect.Value) reflect.Value {
	made := reflect.New(v.Type()).Elem()
	switch v.Kind() {
	case reflect.Struct:
		for k := range v.NumField() {
			made.Field(k).Set(roomyCopy(v.Field(k)))
		}
	case reflect.Slice:
		items := reflect.MakeSlice(v.Type(), v.Len()+3, v.Len()+3)
		for k := range v.Len() {
			items.Index(k).Set(roomyCopy(v.Index(k)))
		}
		for k := v.Len(); k < items.Len(); k++ {
			mark(items.Index(k))
		}
		made.Set(items.Slice(0, v.Len()))
	case reflect.String:
		made.SetString(lent([]byte(v.String())))
	default:
		made.Set(v)
	}
	return made
}

// lent gives the text of bytes that may be written over afterwards.
func lent(b []byte) string { return unsafe.String(unsafe.SliceData(b), len(b)) }

// mark writes something of its own into an item of a list.
func mark(item reflect.Value) {
	switch item.Kind() {
	case reflect.Struct:
		for k := range item.NumField() {
			mark(item.Field(k))
		}
	case reflect.String:
		item.SetString("spare")
	case reflect.Int, reflect.Int64:
		item.SetInt(77)
	case reflect.Uint8, reflect.Uint32:
		item.SetUint(77)
	case reflect.Slice:
		item.Set(reflect.MakeSlice(item.Type(), 1, 1))
	}
}

// walk goes through the lists of v, each with its spare room, the inner ones first.
func walk(v reflect.Value, ask func(list reflect.Value)) {
	switch v.Kind() {
	case reflect.Struct:
		for k := range v.NumField() {
			walk(v.Field(k), ask)
		}
	case reflect.Slice:
		for k := range v.Len() {
			walk(v.Index(k), ask)
		}
		ask(v.Slice(0, v.Cap()))
	}
}

// spares writes down what stands in the spare room of all lists.
func spares(thing any) string {
	var all []any
	walk(reflect.ValueOf(thing), func(list reflect.Value) { all = append(all, list.Interface()) })
	return shown(all)
}

// scribble writes over every list of a thing, its spare room and its texts' bytes. The texts must have been made by roomy.
func scribble(thing any) {
	scribbleTexts(reflect.ValueOf(thing))
	scribbleLists(thing)
}

func scribbleLists(thing any) {
	walk(reflect.ValueOf(thing), func(list reflect.Value) {
		for k := range list.Len() {
			mark(list.Index(k))
		}
	})
}

func scribbleTexts(v reflect.Value) {
	switch v.Kind() {
	case reflect.Struct:
		for k := range v.NumField() {
			scribbleTexts(v.Field(k))
		}
	case reflect.Slice:
		for k := range v.Len() {
			scribbleTexts(v.Index(k))
		}
	case reflect.String:
		b := unsafe.Slice(unsafe.StringData(v.String()), v.Len())
		for k := range b {
			b[k] = '#'
		}
	}
}

// full gives a thing of each kind in which every list, however far in, has items.
func full() map[string]any {
	v := list(num(1), list(text("t"), num(2)), text("u"))
	r := api.Record{Key: "key", Val: v, Loops: []int{1, 2}}
	cells := []api.Cell{{Key: "a", Vals: []api.Value{v, v}}, {Key: "b", Vals: []api.Value{text("w"), v}}}
	s := api.Segment{Id: 3, Task: 1, State: api.State{Num: 9, Cells: cells}, Logs: [][]api.Record{{r, r}, {r}}, Pend: []api.Record{r, r}}
	return map[string]any{"Record": r, "State": s.State, "Segment": s, "Manifest": api.Manifest{Id: 1, Rows: []api.Row{{Size: 3, Check: 4}, {}}}, "Row": api.OutRow{At: 5, Rec: r}}
}

// samples gives things to ask about memory: a few of each kind.
func (k kind) samples() []any {
	all := append(k.fitThings(9, 30), full()[k.name])
	if k.name == "Segment" {
		s := full()["Segment"].(api.Segment)
		s.Base, s.BaseSum, s.Delta, s.State = 2, 7, api.Delta{Num: 9, Set: s.State.Cells, Gone: []string{"c", "d"}}, api.State{}
		all = append(all, s)
	}
	return all
}

func TestPutLeavesItsArgument(t *testing.T) {
	for _, k := range kinds() {
		for _, thing := range k.samples() {
			given := roomy(thing)
			rooms := spares(given)
			b, _ := k.put(given)
			want := bytes.Clone(b)
			again, _ := k.put(given)
			whole := b[:cap(b)]
			for x := range whole {
				whole[x] = 0xee
			}
			if !same(given, thing) || spares(given) != rooms {
				t.Errorf("P4.18: Put%s changes %.300s, or its answer shares memory with it", k.name, shown(thing))
			}
			if later, _ := k.put(given); !bytes.Equal(again, want) || !bytes.Equal(later, want) {
				t.Errorf("P4.18: two answers of Put%s share memory, or one is kept", k.name)
			}
			scribble(given)
			if !bytes.Equal(again, want) {
				t.Errorf("P4.18: the answer of Put%s shares memory with its argument", k.name)
			}
		}
	}
}

func TestPutLeavesWhatIsNotFit(t *testing.T) {
	s := kindNamed("Segment")
	for _, thing := range []any{
		api.Segment{Base: 1, Delta: api.Delta{Set: []api.Cell{{Key: "a"}}, Gone: []string{"b", "a"}}},
		api.Segment{Logs: [][]api.Record{{{Key: "a"}, badRecord}, {{Key: "b"}}}, Pend: []api.Record{{Key: "c"}}},
		api.Segment{State: api.State{Cells: []api.Cell{{Key: "b"}, {Key: "a"}}}},
	} {
		given := roomy(thing)
		rooms := spares(given)
		if _, e := s.put(given); e == api.OK || !same(given, thing) || spares(given) != rooms {
			t.Errorf("P4.18: PutSegment changes %s", shown(thing))
		}
	}
}

func TestGetLeavesItsBytes(t *testing.T) {
	for _, k := range kinds() {
		for _, thing := range k.samples() {
			b := k.lay(thing)
			given := join(b, []byte("spare room"))[:len(b)]
			all := bytes.Clone(given[:cap(given)])
			got, e := k.get(given)
			if e != api.OK || !same(got, thing) {
				t.Fatalf("P4.16: Get%s(%s) answers %s, error %d", k.name, short(b), shown(got), e)
			}
			k.get(given[:len(given)-1])
			again, _ := k.get(given)
			scribbleLists(got)
			if !bytes.Equal(given[:cap(given)], all) {
				t.Errorf("P4.18: Get%s changes %s, or the room behind it, or its answer shares memory with it", k.name, short(b))
			}
			if !same(again, thing) {
				t.Errorf("P4.18: two answers of Get%s share memory: %s", k.name, shown(again))
			}
			for x := range given {
				given[x] = 0xee
			}
			if !same(again, thing) {
				t.Errorf("P4.18: Get%s keeps its bytes: %s", k.name, shown(again))
			}
		}
	}
}

// span is where a list lies, its spare room in.
type span struct{ from, to uintptr }

func spansOf(thing any) []span {
	var all []span
	walk(reflect.ValueOf(thing), func(list reflect.Value) {
		if size := uintptr(list.Len()) * list.Type().Elem().Size(); size > 0 {
			all = append(all, span{list.Pointer(), list.Pointer() + size})
		}
	})
	sort.Slice(all, func(a, b int) bool { return all[a].from < all[b].from })
	return all
}

func TestListsOfOneAnswerShareNothing(t *testing.T) {
	for _, k := range kinds() {
		for _, thing := range k.samples() {
			got, _ := k.get(k.lay(thing))
			again, _ := k.get(k.lay(thing))
			all := append(spansOf(got), spansOf(again)...)
			sort.Slice(all, func(a, b int) bool { return all[a].from < all[b].from })
			for n := 1; n < len(all); n++ {
				if all[n].from < all[n-1].to {
					t.Errorf("P4.18: two lists of what Get%s answers share memory: %s", k.name, shown(got))
				}
			}
		}
	}
}

func TestAppendingToAnAnswerTouchesNoOther(t *testing.T) {
	got, e := kindNamed("Segment").get(laySegment(full()["Segment"].(api.Segment)))
	if e != api.OK {
		t.Fatalf("P4.16: GetSegment answers error %d", e)
	}
	s := got.(api.Segment)
	for k := range s.Logs {
		s.Logs[k] = append(s.Logs[k], badRecord)
	}
	s.State.Cells[0].Vals = append(s.State.Cells[0].Vals, text("behind"))
	s.Pend[0].Loops = append(s.Pend[0].Loops, 8, 8, 8)
	s.Pend[0].Val.Items = append(s.Pend[0].Val.Items, text("behind"))
	want := full()["Segment"].(api.Segment)
	if !same(s.Logs[0][:2], want.Logs[0]) || !same(s.Logs[1][:1], want.Logs[1]) || !same(s.State.Cells[1], want.State.Cells[1]) || !same(s.Pend[1], want.Pend[1]) {
		t.Errorf("P4.18: an append to one list of the answer writes into another: %s", shown(s))
	}
}

func TestThingsFarBeyondTheLimits(t *testing.T) {
	deep := none
	for range 1 << 15 {
		deep = list(deep)
	}
	wide := list(make([]api.Value, 1<<16)...)
	many, lists := make([]api.Record, 1<<16), make([][]api.Record, 1<<16)
	for _, v := range []api.Value{deep, wide, text(long(1 << 20))} {
		r := api.Record{Val: v}
		for _, c := range []struct {
			kind  string
			thing any
		}{
			{"Record", r}, {"Row", api.OutRow{Rec: r}}, {"State", api.State{Cells: []api.Cell{{Vals: []api.Value{v}}}}}, {"Segment", api.Segment{Pend: []api.Record{r}}},
			{"Segment", api.Segment{Base: 1, Delta: api.Delta{Set: []api.Cell{{Vals: []api.Value{v}}}}}},
		} {
			if b, e := kindNamed(c.kind).put(c.thing); e == api.OK || len(b) != 0 {
				t.Errorf("P4.18: Put%s of a value far beyond the limits answers error %d", c.kind, e)
			}
		}
	}
	kindNamed("Record").unfit(t, "P4.18", api.Record{Key: long(1 << 20)}, api.ErrValKey)
	kindNamed("Segment").unfit(t, "P4.18", api.Segment{Logs: lists, Pend: many}, api.ErrWireBound)
	kindNamed("Segment").unfit(t, "P4.18", api.Segment{Pend: many}, api.ErrWireBound)
	kindNamed("Segment").unfit(t, "P4.18", api.Segment{Base: 1, Delta: api.Delta{Gone: make([]string, 1<<16)}}, api.ErrWireBound)
	kindNamed("Manifest").unfit(t, "P4.18", api.Manifest{Rows: make([]api.Row, 1<<16)}, api.ErrWireBound)
	for _, k := range kinds() {
		for _, x := range []byte{0, 1, 3, 77, 79, 83, 0x80, 0xff} {
			k.holds(t, bytes.Repeat([]byte{x}, 1<<20))
		}
	}
}
