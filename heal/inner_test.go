package heal

import (
	"fmt"
	"testing"

	"eddy/api"
	"eddy/shape"
)

// A fake is a store whose Loads answer what a test says. Reading costs a disk nothing, so that no machine falls within a Load from outside.
type fake struct {
	next   int
	shots  map[int]api.Shot
	errs   map[int]error
	loaded []int
}

func (f *fake) Next() int { return f.next }

func (f *fake) Load(id int) (api.Shot, error) {
	f.loaded = append(f.loaded, id)
	if err := f.errs[id]; err != nil {
		return api.Shot{}, err
	}
	if s, there := f.shots[id]; there {
		return s, nil
	}
	return api.Shot{}, &api.Lost{Id: id, Name: manifestName(id), Err: api.ErrVaultGone}
}

// wrapped is an error around another one, as a store might tell it.
type wrapped struct{ err error }

func (w wrapped) Error() string { return "wrapped: " + w.err.Error() }

func (w wrapped) Unwrap() error { return w.err }

// plain gives the search of a source and a sink, and a right shot.
func plain(t *testing.T) (search, api.Shot) {
	t.Helper()
	p := api.Plan{Cap: 1, Tasks: []api.Task{{Name: "s", Kind: api.Source}, {Name: "k", Kind: api.Sink}}, Edges: []api.Edge{{From: 0, To: 1}}}
	sh, _, e := shape.Build(p)
	if e != api.OK {
		t.Fatalf("no plan: error %d", e)
	}
	tapes := [][]api.Record{{{Key: "a"}}}
	return search{plan: p, shape: sh, tapes: tapes}, api.Shot{Sum: Sum(p, tapes), Parts: []api.Part{{}, {Logs: [][]api.Record{nil}}}}
}

// TestAMachineThatFallsWithinALoad: whatever was met ahead of it, nothing is told beside the error, and nothing is loaded behind it.
func TestAMachineThatFallsWithinALoad(t *testing.T) {
	q, right := plain(t)
	wrong := right
	wrong.Sum++
	down := map[string]error{
		"at the manifest":           &api.Lost{Id: 3, Name: "man-0003", Err: api.ErrDiskDown},
		"at a segment":              &api.Lost{Id: 3, Name: "seg-0003-00", Err: api.ErrDiskDown},
		"at no file":                &api.Lost{Id: 3, Err: api.ErrDiskDown},
		"by itself":                 api.ErrDiskDown,
		"within another error":      wrapped{&api.Lost{Id: 3, Name: "man-0003", Err: api.ErrDiskDown}},
		"within another error, too": &api.Lost{Id: 3, Name: "man-0003", Err: wrapped{api.ErrDiskDown}},
	}
	for what, err := range down {
		for at := 1; at <= 6; at++ {
			f := &fake{next: 7, shots: map[int]api.Shot{6: wrong, 4: wrong, 1: right}, errs: map[int]error{5: &api.Lost{Id: 5, Name: "seg-0005-01", Err: api.ErrVaultTorn}}}
			f.errs[at] = err
			got, e := q.newest(f)
			if e != api.ErrDiskDown || got.Id != 0 || len(got.Shot.Parts)+len(got.Config.States)+len(got.Config.Lanes)+len(got.Config.Outs)+len(got.Lost) != 0 {
				t.Errorf("P17.5: the machine falls %s in the Load of %d: %+v, error %d", what, at, got, e)
			}
			if len(f.loaded) != 7-at {
				t.Errorf("P17.5: the machine falls in the Load of %d: %v were loaded", at, f.loaded)
			}
		}
	}
	f := &fake{next: 7, shots: map[int]api.Shot{3: right}, errs: map[int]error{2: api.ErrDiskDown}}
	if got, e := q.newest(f); e != api.OK || got.Id != 3 || fmt.Sprint(f.loaded) != "[6 5 4 3]" {
		t.Errorf("P17.4: behind the first that holds others are loaded: %v, error %d, found %d", f.loaded, e, got.Id)
	}
}

// TestEveryNumberIsLoadedOnce: from the newest down to 1.
func TestEveryNumberIsLoadedOnce(t *testing.T) {
	q, _ := plain(t)
	for _, next := range []int{0, 1, 2, 10, 10000} {
		f := &fake{next: next}
		got, e := q.newest(f)
		if (e == api.ErrDiskDown) != (next == 0) || got.Id != 0 || len(got.Lost) != 0 {
			t.Errorf("P17.4: next %d: found %d, error %d", next, got.Id, e)
		}
		if len(f.loaded) != max(next-1, 0) {
			t.Errorf("P17.4: next %d: %d numbers were loaded", next, len(f.loaded))
		}
		for k, id := range f.loaded {
			if id != next-1-k {
				t.Fatalf("P17.4: next %d: number %d was loaded at place %d", next, id, k)
			}
		}
	}
}

// TestWhatAnErrorTells: the file by errors.As, the reason as a plain number; only the manifest itself that is gone is no shot at all.
func TestWhatAnErrorTells(t *testing.T) {
	q, _ := plain(t)
	for _, x := range []struct {
		err  error
		want string
	}{
		{&api.Lost{Id: 3, Name: "man-0003", Err: api.ErrVaultGone}, ""},
		{wrapped{&api.Lost{Id: 3, Name: "man-0003", Err: api.ErrVaultGone}}, ""},
		{&api.Lost{Id: 3, Name: "man-0002", Err: api.ErrVaultGone}, "3 man-0002 122"},
		{&api.Lost{Id: 3, Name: "man-0030", Err: api.ErrVaultGone}, "3 man-0030 122"},
		{&api.Lost{Id: 3, Name: "man-3", Err: api.ErrVaultGone}, "3 man-3 122"},
		{&api.Lost{Id: 3, Name: "seg-0003-00", Err: api.ErrVaultGone}, "3 seg-0003-00 122"},
		{&api.Lost{Id: 3, Name: "", Err: api.ErrVaultGone}, "3  122"},
		{&api.Lost{Id: 3, Name: "man-0003", Err: api.ErrVaultTorn}, "3 man-0003 123"},
		{&api.Lost{Id: 3, Name: "man-0003", Err: api.ErrVaultForm}, "3 man-0003 124"},
		{&api.Lost{Id: 3, Name: "seg-0001-07", Err: api.ErrVaultChain}, "3 seg-0001-07 125"},
		{wrapped{&api.Lost{Id: 3, Name: "seg-0003-11", Err: api.ErrVaultTorn}}, "3 seg-0003-11 123"},
		{&api.Lost{Id: 3, Err: api.ErrVaultId}, "3  120"},
		{api.ErrVaultForm, "3  124"},
	} {
		got, e := q.newest(&fake{next: 4, errs: map[int]error{3: x.err}})
		told := ""
		for _, l := range got.Lost {
			why, plain := l.Err.(api.Errno)
			told += fmt.Sprint(l.Id, " ", l.Name, " ", int(why))
			if !plain {
				told += " within another error"
			}
		}
		if e != api.OK || got.Id != 0 || told != x.want {
			t.Errorf("P17.4: Load answers %v: %q is told, error %d, want %q", x.err, told, e, x.want)
		}
	}
}

func TestManifestNames(t *testing.T) {
	for id, want := range map[int]string{1: "man-0001", 9: "man-0009", 10: "man-0010", 123: "man-0123", 4567: "man-4567", 9999: "man-9999"} {
		if got := manifestName(id); got != want {
			t.Errorf("P12.1: the manifest of %d is named %s, want %s", id, got, want)
		}
	}
}
