package equal_test

import (
	"reflect"
	"testing"

	"eddy/api"
	"eddy/equal"
)

// sample gives a configuration, not one of a plan, in which all fields are filled and no list is empty.
func sample() api.Config {
	inner := api.Value{Kind: api.List, Int: 1, Text: "a", Items: []api.Value{{Kind: api.Text, Text: "b"}, {Kind: 9, Int: -1}}}
	r := api.Record{Key: "key", Val: api.Value{Kind: api.List, Items: []api.Value{inner, {}}}, Loops: []int{-1, 99}}
	return clone(api.Config{
		States: []api.State{{Num: -3, Cells: []api.Cell{{Key: "c", Vals: []api.Value{inner}}, {Key: "c"}}}, {}},
		Lanes:  [][]api.Record{{r, r}, nil, {r}},
		Outs:   [][]api.Record{{r}},
	})
}

// sampleShot gives a snapshot, not one of a plan, of what a sample holds.
func sampleShot() api.Shot {
	c := sample()
	return api.Shot{Id: -3, Sum: 7, Parts: []api.Part{{State: c.States[0], Logs: c.Lanes, Pend: c.Outs[0]}, {}, {Logs: c.Outs}}}
}

// clone copies a thing and all that hangs on it; empty lists become nil.
func clone[T any](x T) T { return deep(reflect.ValueOf(x)).Interface().(T) }

func deep(v reflect.Value) reflect.Value {
	all := reflect.New(v.Type()).Elem()
	switch v.Kind() {
	case reflect.Slice:
		for k := range v.Len() {
			all.Set(reflect.Append(all, deep(v.Index(k))))
		}
		return all
	case reflect.Struct:
		for k := range v.NumField() {
			all.Field(k).Set(deep(v.Field(k)))
		}
		return all
	}
	return v
}

// eachChange changes the thing at one place after the other, calls see with it, and changes it back: each number and text, and each list by an item more, without its last and without its first.
func eachChange(v reflect.Value, path string, see func(path string)) {
	old := reflect.New(v.Type()).Elem()
	old.Set(v)
	try := func(what string, changed any) {
		v.Set(reflect.ValueOf(changed).Convert(v.Type()))
		see(path + ": " + what)
		v.Set(old)
	}
	switch v.Kind() {
	case reflect.Int, reflect.Int64:
		try("one more", v.Int()+1)
		try("one less", v.Int()-1)
	case reflect.Uint32:
		try("one more", v.Uint()+1)
		try("one less", v.Uint()-1)
	case reflect.String:
		try("a byte more", v.String()+"\x00")
		if v.Len() > 0 {
			try("a byte less", v.String()[1:])
		}
	case reflect.Struct:
		for k := range v.NumField() {
			eachChange(v.Field(k), path+"."+v.Type().Field(k).Name, see)
		}
	case reflect.Slice:
		zero := reflect.Zero(v.Type().Elem())
		try("an item more", reflect.Append(deep(v), zero).Interface())
		if v.Len() == 0 {
			return
		}
		try("an item less", deep(v.Slice(0, v.Len()-1)).Interface())
		try("the first less", deep(v.Slice(1, v.Len())).Interface())
		for k := range v.Len() {
			eachChange(v.Index(k), path+"["+string(rune('0'+k))+"]", see)
		}
	}
}

// wantOther fails the test where a change isn't told.
func wantOther[T any](t *testing.T, x T, same func(a, b T) bool) {
	t.Helper()
	whole, count := clone(x), 0
	if !same(whole, x) || !same(x, x) {
		t.Errorf("a copy of %+v isn't the same", x)
	}
	eachChange(reflect.ValueOf(&x).Elem(), "", func(path string) {
		count++
		if same(whole, x) || same(x, whole) {
			t.Errorf("%T, changed at %s, is the same", x, path)
		}
		if again := clone(x); !same(again, x) {
			t.Errorf("%T, changed at %s, isn't the same as its copy", x, path)
		}
	})
	if count < 10 || !reflect.DeepEqual(whole, x) {
		t.Errorf("%d changes of %T were tried", count, x)
	}
}

func TestEveryFieldCounts(t *testing.T) {
	c := sample()
	wantOther(t, c, equal.Config)
	wantOther(t, sampleShot(), equal.Shot)
	wantOther(t, sampleShot().Parts[0], equal.Part)
	wantOther(t, c.States[0], equal.State)
	wantOther(t, c.Lanes[0], equal.Records)
	wantOther(t, c.Lanes[0][0], equal.Record)
	wantOther(t, c.Lanes[0][0].Val, equal.Value)
}

func TestAListInAnothersPlace(t *testing.T) {
	a, b := sample(), sample()
	b.Lanes, b.Outs = b.Outs, b.Lanes
	if equal.Config(a, b) {
		t.Error("lanes and outputs are exchanged, and the configurations are the same")
	}
	b = sample()
	b.Lanes[1], b.Lanes[2] = b.Lanes[2], b.Lanes[1]
	if equal.Config(a, b) {
		t.Error("two lanes are exchanged, and the configurations are the same")
	}
	one, other := sampleShot(), sampleShot()
	other.Parts[0].Pend, other.Parts[0].Logs[0] = other.Parts[0].Logs[0], other.Parts[0].Pend
	if equal.Shot(one, other) {
		t.Error("a log and the pending output are exchanged, and the snapshots are the same")
	}
	other = sampleShot()
	other.Parts[0], other.Parts[2] = other.Parts[2], other.Parts[0]
	if equal.Shot(one, other) {
		t.Error("two parts are exchanged, and the snapshots are the same")
	}
}

func TestNilAndEmptyAreTheSame(t *testing.T) {
	empty := api.Config{States: []api.State{}, Lanes: [][]api.Record{}, Outs: make([][]api.Record, 0, 3)}
	if !equal.Config(api.Config{}, empty) || !equal.Config(empty, api.Config{}) {
		t.Error("a configuration of empty lists isn't the same as one of none")
	}
	if !equal.Shot(api.Shot{Parts: make([]api.Part, 1)}, api.Shot{Parts: []api.Part{{Logs: [][]api.Record{}, Pend: []api.Record{}}}}) || !equal.Shot(api.Shot{}, api.Shot{Parts: []api.Part{}}) {
		t.Error("a snapshot of empty lists isn't the same as one of none")
	}
	if !equal.State(api.State{}, api.State{Cells: []api.Cell{}}) || !equal.Records(nil, []api.Record{}) {
		t.Error("an empty list isn't the same as none")
	}
	if !equal.Record(api.Record{}, api.Record{Val: api.Value{Items: []api.Value{}}, Loops: []int{}}) {
		t.Error("a record of empty lists isn't the same as one of none")
	}
}
