package plan_test

import (
	"cmp"
	"fmt"
	"reflect"
	"runtime"
	"slices"
	"strings"
	"testing"
	"unsafe"

	"eddy/api"
	"eddy/plan"
)

// A place is where a list, its spare room in, or a text lies.
type place struct {
	from, to uintptr
	of       string
}

// A memory is all that hangs on something: its lists, with their spare room, and its texts.
type memory struct {
	lists, texts []place
	all          []reflect.Value // the lists, up to the end of their spare room
}

// hanging gathers the memory of a thing, whatever its type.
func hanging(of string, thing any) *memory {
	m := &memory{}
	m.add(of, reflect.ValueOf(thing))
	return m
}

func (m *memory) add(of string, v reflect.Value) {
	switch v.Kind() {
	case reflect.Struct:
		for k := range v.NumField() {
			m.add(of+"."+v.Type().Field(k).Name, v.Field(k))
		}
	case reflect.Slice:
		if v.Cap() > 0 {
			from := v.Pointer()
			m.lists = append(m.lists, place{from, from + uintptr(v.Cap())*v.Type().Elem().Size(), of})
			m.all = append(m.all, v.Slice(0, v.Cap()))
		}
		for k := range v.Len() {
			m.add(fmt.Sprintf("%s[%d]", of, k), v.Index(k))
		}
	case reflect.String:
		if s := v.String(); s != "" {
			from := uintptr(unsafe.Pointer(unsafe.StringData(s)))
			m.texts = append(m.texts, place{from, from + uintptr(len(s)), of})
		}
	}
}

// scribble writes zeros, and sevens for numbers, over all lists and their spare room.
func (m *memory) scribble() {
	for _, l := range m.all {
		for k := range l.Len() {
			l.Index(k).SetZero()
			if l.Index(k).CanInt() {
				l.Index(k).SetInt(7777)
			}
		}
	}
}

// dump writes all lists, their spare room in.
func (m *memory) dump() string {
	var b strings.Builder
	for _, l := range m.all {
		fmt.Fprintf(&b, "%#v\n", l.Interface())
	}
	return b.String()
}

// apart tells which two of the places meet.
func apart(t *testing.T, promise string, all []place) {
	t.Helper()
	slices.SortFunc(all, func(a, b place) int { return cmp.Compare(a.from, b.from) })
	for k := 1; k < len(all); k++ {
		if all[k].from < all[k-1].to {
			t.Errorf("%s: %s and %s share memory", promise, all[k-1].of, all[k].of)
		}
	}
}

// lent gives a text in bytes of its own, which can be written over afterwards.
func lent(s string) string {
	b := []byte(s)
	return unsafe.String(unsafe.SliceData(b), len(b))
}

func spoilText(s string) {
	b := unsafe.Slice(unsafe.StringData(s), len(s))
	for k := range b {
		b[k] = '7'
	}
}

// roomy copies a thing so that every list has spare room behind it that is no zeros, and every text has bytes of its own.
func roomy[T any](thing T) T {
	return roomyValue(reflect.ValueOf(thing)).Interface().(T)
}

func roomyValue(v reflect.Value) reflect.Value {
	out := reflect.New(v.Type()).Elem()
	switch v.Kind() {
	case reflect.Struct:
		for k := range v.NumField() {
			out.Field(k).Set(roomyValue(v.Field(k)))
		}
	case reflect.Slice:
		out.Set(reflect.MakeSlice(v.Type(), v.Len()+3, v.Len()+3))
		for k := range v.Len() + 3 {
			if k < v.Len() {
				out.Index(k).Set(roomyValue(v.Index(k)))
			} else {
				out.Index(k).Set(marked(v.Type().Elem()))
			}
		}
		out.Set(out.Slice(0, v.Len()))
	case reflect.String:
		out.SetString(lent(v.String()))
	default:
		out.Set(v)
	}
	return out
}

// marked gives an item that is no zero.
func marked(of reflect.Type) reflect.Value {
	v := reflect.New(of).Elem()
	switch of.Kind() {
	case reflect.Struct:
		v.Field(0).Set(marked(of.Field(0).Type))
	case reflect.String:
		v.SetString("spare")
	case reflect.Int, reflect.Int64:
		v.SetInt(88)
	}
	return v
}

// someTexts are texts of the tongue with lists in all that comes out.
func (g tongue) someTexts() []string {
	switch g.name {
	case "Plan":
		return []string{small, "plan 1", "plan 2\ntask t tail \";\"==key ; 3\ntask abcdefgh window 2\ntask f fold 0;acc + 1\ntask g map key;val\ntask h map key;val\nedge t.0 f.1\nedge f.0 t.1\nedge g.0 g.0"}
	case "Tape":
		return []string{"\"a\" [1, [2, [\"text\"]], \"other\"]\n\"longer key\" [[], [none]]\n\"a\" \"text\"", "\"a\" [1, 2, 3]\n\"a\" [1, 2, 3]\n\"a\" [1, 2, 3]", "\"only key\" none"}
	}
	return []string{
		"recover 1 2 3\nrecover 1 2 3\npick 1 2\nrecover arm 1 4", "repeat 5\nrecover 1 2 3\nend", "repeat 3\nrepeat 2\nrecover arm 9 1\npost\nend\nrecover 5 6 7\nend\nrecover 8",
		"repeat 2000\nrecover 1\nend", "repeat 7\nrepeat 1\nrecover 1 2\nend\nend", "post\nrepeat 2\nend",
	}
}

// faultyTexts are texts with faults of this and of the lower layers.
func (g tongue) faultyTexts() []string {
	switch g.name {
	case "Plan":
		return []string{small + "what", small + "task x filter 1 +", "", small + "task s sink"}
	case "Tape":
		return []string{"\"a\" [1, 2]\n\"b", "\"a\" [[[[", "x"}
	}
	return []string{"recover 1 2\nwhat", "repeat 2\nrecover 1 2", "end"}
}

// TestATextIsNotKept: what is read stays, when the text's bytes are written over; and its texts lie elsewhere.
func TestATextIsNotKept(t *testing.T) {
	for _, g := range tongues() {
		for _, s := range append(g.someTexts(), g.faultyTexts()...) {
			want, wantErr := g.parse(s)
			given := lent(s)
			got, err := g.parse(given)
			if given != s {
				t.Errorf("P6.16: Parse%s changes the text %s", g.name, short(s))
			}
			at := hanging("the text", given)
			for _, p := range hanging("the answer", got).texts {
				apart(t, "P6.16: Parse"+g.name, []place{at.texts[0], p})
			}
			spoilText(given)
			if !same(got, want) || toldBy(err) != toldBy(wantErr) {
				t.Errorf("P6.16: Parse%s keeps the text %s: it is %s, %v now", g.name, short(s), shown(got), err)
			}
			runtime.KeepAlive(given)
		}
	}
}

// TestListsOfAnswersAreApart: no two lists, of one answer or of two, share memory, their spare room in.
func TestListsOfAnswersAreApart(t *testing.T) {
	for _, g := range tongues() {
		var all []place
		var alive []*memory
		for _, s := range g.someTexts() {
			for n := range 3 {
				thing := g.wantTaken(t, "P6.16", s)
				m := hanging(fmt.Sprintf("answer %d of Parse%s(%s)", n, g.name, short(s)), thing)
				all, alive = append(all, m.lists...), append(alive, m)
				// What is written over mustn't come out of the next call.
				want, _ := g.model(s)
				if !same(thing, want) {
					t.Errorf("P6.16: Parse%s(%s), asked again, answers %s, want %s", g.name, short(s), shown(thing), shown(want))
				}
				m.scribble()
			}
		}
		apart(t, "P6.16", all)
		// An answer that is written over holds its inner lists no more: their memory would be handed out anew.
		runtime.KeepAlive(alive)
	}
}

// TestAnswersCanBeAppendedTo: what is appended to one list is seen in no other.
func TestAnswersCanBeAppendedTo(t *testing.T) {
	l, err := plan.ParseScript("repeat 3\nrecover 1 2 3\nrecover 4\nend")
	if err != nil || len(l) != 6 {
		t.Fatalf("P6.12: ParseScript answers %v, %v", l, err)
	}
	for k := range l {
		l[k].Keep = append(l[k].Keep, k, k, k)
		l[k].Keep[0] = 100 + k
	}
	for k := range l {
		want := []int{100 + k, 2, 3, k, k, k}
		if k%2 == 1 {
			want = []int{100 + k, k, k, k}
		}
		if !slices.Equal(l[k].Keep, want) {
			t.Errorf("P6.16: the list of step %d is %v, want %v", k, l[k].Keep, want)
		}
	}
	p, err := plan.ParsePlan("plan 1\ntask a map key;val\ntask b map val;key\ntask c tee")
	if err != nil || len(p.Tasks) != 3 {
		t.Fatalf("P6.5: ParsePlan answers %v, %v", p, err)
	}
	for k := range p.Tasks {
		p.Tasks[k].Exprs = append(p.Tasks[k].Exprs, fmt.Sprint(k))
	}
	if got := fmt.Sprint(p.Tasks); got != "[{a 2 0 [key val 0]} {b 2 0 [val key 1]} {c 7 0 [2]}]" {
		t.Errorf("P6.16: what is appended to one list is seen in another: %s", got)
	}
}

// TestThingsThatAreWrittenStayAsTheyAre: the spare room too; and what is written doesn't hang on them.
func TestThingsThatAreWrittenStayAsTheyAre(t *testing.T) {
	for _, g := range tongues() {
		for seed := range int64(300) {
			m := made(seed)
			thing := m.thing(g)
			if seed%3 == 0 {
				thing = m.spoilt(thing)
			}
			want, wantErr := written(thing)
			var given any
			switch x := thing.(type) {
			case api.Plan:
				given = roomy(x)
			case []api.Record:
				given = roomy(x)
			case []api.Op:
				given = roomy(x)
			}
			hung := hanging("what is handed in", given)
			before := hung.dump() + shown(given)
			got, err := written(given)
			if hung.dump()+shown(given) != before {
				t.Fatalf("P6.16: Print%s changes what it is handed: %s", g.name, shown(given))
			}
			apart(t, "P6.16: Print"+g.name, append(hanging("the text", got).texts, firstTexts(hung)...))
			hung.scribble()
			if got != want || toldBy(err) != toldBy(wantErr) {
				t.Fatalf("P6.16: Print%s answers %s, %v of a thing with spare room, want %s, %v", g.name, short(got), err, short(want), wantErr)
			}
		}
	}
}

// firstTexts gives the places of the texts; those that two fields share, once.
func firstTexts(m *memory) []place {
	seen := map[uintptr]bool{}
	var all []place
	for _, p := range m.texts {
		if !seen[p.from] {
			seen[p.from] = true
			all = append(all, p)
		}
	}
	return all
}

func TestFaultsOfTwoCallsShareNothing(t *testing.T) {
	for _, g := range tongues() {
		for _, s := range append(g.faultyTexts(), strings.Repeat("x", 9000)) {
			_, first := g.parse(s)
			_, second := g.parse(s)
			want := toldBy(second)
			if f, ok := first.(*api.Fault); ok {
				*f = api.Fault{Line: 99, At: 99, Err: api.OK}
			}
			_, third := g.parse(s)
			if toldBy(second) != want || toldBy(third) != want {
				t.Errorf("P6.16: two faults of Parse%s(%s) share memory", g.name, short(s))
			}
		}
	}
	_, first := plan.PrintPlan(api.Plan{Cap: -1})
	*first.(*api.Fault) = api.Fault{}
	if _, second := plan.PrintPlan(api.Plan{Cap: -1}); toldBy(second) != (told{0, 0, api.ErrPlanPrint}) {
		t.Errorf("P6.16: two faults of PrintPlan share memory")
	}
}

// TestTextsOfAnyBytes: every call ends, and none panics.
func TestTextsOfAnyBytes(t *testing.T) {
	for _, g := range tongues() {
		for c := range 256 {
			for _, begin := range []string{"", "plan 1\n", "plan 1\ntask a map ", "plan 1\ntask a tail 1;", "plan 1\ntask a tee\nedge a.", "\"", "\"a\" ", "recover ", "repeat 1\n", "fail 1 "} {
				g.agrees(t, begin+string([]byte{byte(c)}))
				g.agrees(t, begin+strings.Repeat(string([]byte{byte(c)}), 50)+"\n"+begin)
			}
		}
		for seed := range int64(500) {
			g.agrees(t, made(seed).bytes(200))
		}
		for _, c := range []string{"\"", "\\", ";", "(", "[", " ", "\n", "#", ".", "-", "\xff"} {
			g.agrees(t, strings.Repeat(c, g.most))
			g.agrees(t, "plan 1\ntask a map "+strings.Repeat(c, g.most-18))
			g.agrees(t, "\"a\" "+strings.Repeat(c, g.most-4))
			g.agrees(t, "recover"+strings.Repeat(" 0"+c, (g.most-7)/3))
		}
	}
	// As many numbers as can come of one text: each of the 2000 steps has its own.
	l, err := plan.ParseScript("repeat 2000\nrecover" + strings.Repeat(" 1", 3900) + "\nend")
	if err != nil || len(l) != 2000 || len(l[1999].Keep) != 3900 {
		t.Errorf("P6.14: ParseScript answers %d steps, %v", len(l), err)
	}
}

func TestThingsFarBeyondTheLimits(t *testing.T) {
	long := strings.Repeat("a", 1<<22)
	plans().wantUnwritten(t, "P6.16", "a name far too long", api.Plan{Tasks: slices.Repeat([]api.Task{{Name: long, Kind: api.Tee}}, 12), Edges: make([]api.Edge, 24)})
	plans().wantUnwritten(t, "P6.16", "an expression far too long", oneTask(api.Task{Name: "a", Kind: api.Map, Exprs: []string{long, long}}))
	plans().wantUnwritten(t, "P6.16", "far too many expressions", oneTask(api.Task{Name: "a", Kind: api.Map, Exprs: make([]string, 1<<20)}))
	plans().wantUnwritten(t, "P6.16", "far too many tasks", api.Plan{Tasks: make([]api.Task, 1<<18)})
	plans().wantUnwritten(t, "P6.16", "far too many edges", api.Plan{Edges: make([]api.Edge, 1<<20)})
	tapes().wantUnwritten(t, "P6.16", "far too many records", make([]api.Record, 1<<18))
	tapes().wantUnwritten(t, "P6.16", "a key far too long", []api.Record{{Key: long}})
	deep := list()
	for range 1<<16 - 2 {
		deep = list(deep)
	}
	tapes().wantUnwritten(t, "P6.16", "lists far too deep", []api.Record{{Val: deep}})
	scripts().wantUnwritten(t, "P6.16", "far too many steps", make([]api.Op, 1<<18))
}
