package memory

import (
	"reflect"
	"slices"
	"testing"
	"unsafe"

	"eddy/api"
)

func lent(s string) string {
	b := []byte(s)
	return unsafe.String(unsafe.SliceData(b), len(b))
}

// samples gives things of all types, without an empty list but in the innermost values.
func samples() []any {
	value := func(text string) api.Value {
		return api.Value{Kind: api.List, Items: []api.Value{{Kind: api.Text, Text: text, Items: []api.Value{}}, {Kind: 5, Int: -7, Items: []api.Value{}}}}
	}
	record := func(key string) api.Record {
		return api.Record{Key: key, Val: value("in " + key), Loops: []int{3, 0}}
	}
	state := func(key string) api.State {
		return api.State{Num: 8, Cells: []api.Cell{{Key: key, Vals: []api.Value{value("of " + key)}}}}
	}
	part := func(key string) api.Part {
		return api.Part{State: state(key), Logs: [][]api.Record{{record(key)}, {record("b"), record("c")}}, Pend: []api.Record{record("d")}}
	}
	task := api.Task{Name: "m", Kind: api.Map, Num: 2, Exprs: []string{"key", "val"}}
	return []any{5, "text", []byte{1, 2}, [][]byte{{3}, {4, 5}}, value("v"), record("r"), state("s"), part("p"), state("s").Cells, state("s").Cells[0], task,
		api.Event{Task: 1, Port: 2}, []api.Event{{Task: 1, Port: 2}, {}}, api.Edge{From: 1, Out: 2, To: 3, In: 4},
		api.Trail{Kind: 1, Task: 2, Port: 3, Id: 4}, []api.Trail{{Kind: 1, Task: 2, Port: 3, Id: 4}, {}},
		api.Shot{Id: 3, Sum: 4, Parts: []api.Part{part("x"), part("y")}},
		api.Config{States: []api.State{state("s")}, Lanes: [][]api.Record{{record("l")}}, Outs: [][]api.Record{{record("o")}}},
		api.Plan{Cap: 2, Tasks: []api.Task{task}, Edges: []api.Edge{{From: 1, Out: 2, To: 3, In: 4}, {}}},
		api.File{Name: "f", Data: []byte{1, 2}, Synced: 1}, []api.File{{Name: "f", Data: []byte{0, 255}, Synced: 2}, {Name: "g", Data: []byte{7}}},
		api.Flight{From: 1, To: 2, Data: []byte{3}}, []api.Flight{{From: 1, To: 2, Data: []byte{3, 0}}, {From: 2, To: 1, Data: []byte{4}}},
		api.Op{Kind: 9, A: 1, B: 2, Keep: []int{3, -1}}, []api.Op{{Kind: 9, Keep: []int{3}}, {Kind: 1, A: 4, B: 5, Keep: []int{0}}}}
}

// lists gives all lists that hang on a thing, as they are found by their types, the inner ones first; and how many texts.
func lists(v reflect.Value) (all []reflect.Value, texts int) {
	inner := func(one reflect.Value) {
		more, count := lists(one)
		all, texts = append(all, more...), texts+count
	}
	switch v.Kind() {
	case reflect.Interface:
		inner(v.Elem())
	case reflect.Struct:
		for k := range v.NumField() {
			inner(v.Field(k))
		}
	case reflect.Slice:
		for k := range v.Len() {
			inner(v.Index(k))
		}
		// What is laid into v's place later on is another list.
		all = append(all, reflect.ValueOf(v.Interface()))
	case reflect.String:
		texts++
	}
	return all, texts
}

func TestEveryListIsFound(t *testing.T) {
	for _, x := range samples() {
		all, texts := lists(reflect.ValueOf(x))
		m := Of(x)
		if len(m.lists) != len(all) || len(m.Texts()) != texts {
			t.Errorf("on %#v %d lists and %d texts are found, want %d and %d", x, len(m.lists), len(m.Texts()), len(all), texts)
		}
	}
}

func TestRoomy(t *testing.T) {
	for _, x := range samples() {
		copied := Roomy(x, lent)
		if !reflect.DeepEqual(copied, x) || reflect.TypeOf(copied) != reflect.TypeOf(x) {
			t.Errorf("the copy of %#v is %#v", x, copied)
		}
		all, _ := lists(reflect.ValueOf(copied))
		for _, l := range all {
			if l.Cap() != l.Len()+3 || l.Slice(0, l.Cap()).Index(l.Len()).IsZero() {
				t.Errorf("the copy of %#v has no marks behind the list %v", x, l)
			}
		}
		if again := Roomy(x, lent); Of(again).Told() != Of(copied).Told() || len(all) > 0 && Of(x).Told() == Of(copied).Told() {
			t.Errorf("the spare room of the copy of %#v isn't told", x)
		}
		for k, text := range Of(copied).Texts() {
			if text != Of(x).Texts()[k] || len(text) > 0 && unsafe.StringData(text) == unsafe.StringData(Of(x).Texts()[k]) {
				t.Errorf("the text %q of %#v isn't lent", text, x)
			}
		}
	}
}

// TestToldSeesEveryChange: of each item of each list, those in the spare room too, and of each field of it.
func TestToldSeesEveryChange(t *testing.T) {
	for _, x := range samples() {
		copied := Roomy(x, lent)
		m := Of(copied)
		before := m.Told()
		all, _ := lists(reflect.ValueOf(copied))
		for _, l := range all {
			l = l.Slice(0, l.Cap())
			for k := range l.Len() {
				changes(l.Index(k), func() {
					if m.Told() == before {
						t.Fatalf("a change of item %d of the list %v isn't told", k, l)
					}
				})
			}
		}
		if m.Told() != before {
			t.Fatal("a change wasn't undone")
		}
	}
}

// changes changes each field of a thing that isn't in a list of its own, one at a time, and undoes it.
func changes(v reflect.Value, see func()) {
	old := reflect.New(v.Type()).Elem()
	old.Set(v)
	switch v.Kind() {
	case reflect.Struct:
		for k := range v.NumField() {
			changes(v.Field(k), see)
		}
		return
	case reflect.String:
		v.SetString(v.String() + "!")
	case reflect.Slice:
		v.Set(reflect.Append(v.Slice3(0, v.Len(), v.Len()), reflect.Zero(v.Type().Elem())))
	case reflect.Uint8:
		v.SetUint(v.Uint() ^ 1)
	default:
		v.SetInt(v.Int() + 1)
	}
	see()
	v.Set(old)
}

func TestScribble(t *testing.T) {
	for _, x := range samples() {
		copied := Roomy(x, lent)
		all, _ := lists(reflect.ValueOf(copied))
		var old []reflect.Value
		for _, l := range all {
			l = l.Slice(0, l.Cap())
			was := reflect.MakeSlice(l.Type(), l.Len(), l.Len())
			reflect.Copy(was, l)
			old = append(old, was)
		}
		Of(copied).Scribble()
		for n, l := range all {
			for k := range l.Cap() {
				if now := l.Slice(0, l.Cap()).Index(k).Interface(); reflect.DeepEqual(now, old[n].Index(k).Interface()) {
					t.Errorf("item %d of a list of %#v isn't written over", k, x)
				}
			}
		}
	}
}

func TestExtend(t *testing.T) {
	for _, x := range samples() {
		copied := Roomy(x, lent)
		m := Of(copied)
		before := m.Told()
		m.Extend()
		if !reflect.DeepEqual(copied, x) || len(m.lists) > 0 && m.Told() == before {
			t.Errorf("what is appended to lists of %#v is seen in it, or not in the spare room", x)
		}
	}
}

// TestApart: lists that share all of their memory, an item, or spare room alone, aren't apart.
func TestApart(t *testing.T) {
	for _, x := range samples() {
		one, other := Roomy(x, lent), Roomy(x, lent)
		if !Of(one, other).Apart() {
			t.Errorf("copies of %#v aren't apart", x)
		}
		count := len(Of(x).lists)
		for n := range count {
			one = Roomy(x, lent)
			all, _ := lists(reflect.ValueOf(one))
			if Of(one, all[n].Interface()).Apart() {
				t.Errorf("list %d of %#v is apart from itself", n, x)
			}
		}
	}
	for _, pieces := range [][2]int{{2, 3}, {0, 0}, {3, 4}, {3, 3}} {
		numbers := make([]int, 3, 6)
		if other := numbers[pieces[0]:pieces[1]]; Of(numbers, other).Apart() || Of(other, numbers).Apart() {
			t.Errorf("a list and a piece of it, with room for %d items, are apart", cap(other))
		}
	}
	if numbers := make([]int, 3, 6); !Of(numbers[:2:2], numbers[2:]).Apart() {
		t.Error("two pieces of a list aren't apart")
	}
	if !Of([]int(nil), []int(nil), []string{}, []string{}).Apart() {
		t.Error("lists without room aren't apart")
	}
}

func TestTextsAreACopy(t *testing.T) {
	m := Of("a", []string{"b"})
	m.Texts()[0] = "other"
	if !slices.Equal(m.Texts(), []string{"a", "b"}) {
		t.Errorf("the texts are %q", m.Texts())
	}
}

func TestUnknownTypes(t *testing.T) {
	for _, x := range []any{nil, 1.5, []float64{1}, &api.Record{}, map[int]int{}} {
		func() {
			defer func() {
				if recover() == nil {
					t.Errorf("%#v is taken", x)
				}
			}()
			Of(x)
		}()
	}
}
