package engine_test

import (
	"fmt"
	"math"
	"slices"
	"strings"
	"testing"

	"eddy/api"
	"eddy/engine"
)

// refused fails the test where New, or the model of it, takes a ground, or refuses it with another error.
func refused(t *testing.T, promise string, g ground, want string) {
	t.Helper()
	e, err := engine.New(g.text, g.tapes, g.mode, g.files)
	if got := errorTold(err); got != want || e != nil {
		t.Errorf("%s: %v: New answers an engine: %v, and %s, want %s", promise, g, e != nil, got, want)
	}
	if _, err := modelNew(g.text, g.tapes, g.mode, g.files); errorTold(err) != want {
		t.Errorf("the model: %s: %v: New answers %s, want %s", promise, g, errorTold(err), want)
	}
}

// A flaw is a part of a ground, and the error that it makes, if it makes one.
type flaw struct {
	set  func(g *ground)
	want string
}

// flaws gives for each part of a ground what it may be, the parts in the order in which they are looked at.
func flaws() [][]flaw {
	mode := func(n int) func(g *ground) { return func(g *ground) { g.mode = n } }
	text := func(s string) func(g *ground) { return func(g *ground) { g.text = s } }
	tapes := func(l ...string) func(g *ground) { return func(g *ground) { g.tapes = l } }
	files := func(l ...api.File) func(g *ground) { return func(g *ground) { g.files = l } }
	whole := pair().text
	return [][]flaw{
		{{mode(1), ""}, {mode(2), ""}, {mode(3), ""}, {mode(0), "error 190"}, {mode(4), "error 190"}, {mode(-1), "error 190"}, {mode(math.MinInt), "error 190"}, {mode(math.MaxInt), "error 190"}},
		{{text(whole), ""}, {text(""), "fault 1 0 error 66"}, {text("plan 1\n\ntask a map key"), "fault 3 14 error 61"}, {text("plan 1\ntask a filter 1+  "), "fault 2 16 error 36"},
			{text(strings.Repeat(" ", 3001)), "fault 0 0 error 60"}, {text("plan 1"), "error 70"}, {text("plan 9\ntask s sink"), "error 70"}, {text("plan 1\ntask s source 4"), "error 72"},
			{text("plan 1\ntask s source 0\ntask k sink\nedge s.0 k.9"), "error 74"}, {text("plan 2\ntask s source 0"), "error 75"},
			{text("plan 1\ntask a union\ntask b tee\nedge a.0 b.0\nedge b.0 a.0"), "error 77"}},
		{{tapes(pair().tapes...), ""}, {tapes("", "", "", ""), ""}, {tapes(make([]string, 5)...), "error 191"}, {tapes("x", "x", "x", "x", "x"), "error 191"}, {tapes(make([]string, 1000)...), "error 191"},
			{tapes("", "# none\n x"), "fault 2 1 error 67"}, {tapes("\"a\"", "x"), "fault 1 3 error 28"}, {tapes("x"), "fault 1 0 error 67"}, {tapes("", "", "", strings.Repeat(" ", 4001)), "fault 0 0 error 60"},
			{tapes("", "", "\"a\" 1\n\"abcdefghijklm\" 1"), "fault 2 0 error 24"}, {tapes(), "error 90"}, {tapes("\"a\" 1"), "error 90"}},
		{{files(), ""}, {files(api.File{Name: "other", Data: []byte("x"), Synced: 1}), ""}, {files(api.File{Name: "A"}), "error 105"}, {files(api.File{}), "error 105"},
			{files(api.File{Name: "a"}, api.File{Name: "a"}), "error 105"}, {files(api.File{Name: "a", Synced: 1}), "error 105"}, {files(api.File{Name: "a", Synced: -1}), "error 105"},
			{files(api.File{Name: "a", Data: make([]byte, 65537)}), "error 105"}, {files(make([]api.File, 401)...), "error 105"}},
	}
}

// TestNewErrors: each error ahead of the next, whatever stands behind it.
func TestNewErrors(t *testing.T) {
	count := 0
	all := flaws()
	for _, a := range all[0] {
		for _, b := range all[1] {
			for _, c := range all[2] {
				for _, d := range all[3] {
					var g ground
					want := ""
					for _, f := range []flaw{a, b, c, d} {
						if f.set(&g); want == "" {
							want = f.want
						}
					}
					if want != "" {
						refused(t, "P19.1", g, want)
					} else {
						g.open(t)
						count++
					}
				}
			}
		}
	}
	if count != 3*1*2*2 {
		t.Errorf("%d grounds are taken", count)
	}
}

// TestNewErrorsOfThePlan: each error of a plan's shape is answered as it is.
func TestNewErrorsOfThePlan(t *testing.T) {
	for text, want := range map[string]string{
		"plan 0\ntask s sink":                                "error 70",
		"plan 2":                                             "error 70",
		"plan 2\ntask s tail 0;":                             "fault 2 14 error 62",
		"plan 2\ntask a sink\ntask a sink":                   "fault 3 5 error 64",
		"plan 2\ntask s window 0":                            "error 72",
		"plan 2\ntask s window 7":                            "error 72",
		"plan 2\ntask s source 0\ntask k sink\nedge s.0 k.4": "error 74",
		"plan 2\ntask s source 0\ntask k sink":               "error 75",
		"plan 2\ntask s source 0\ntask h head\ntask t tail 0 ; 2\ntask k sink\nedge s.0 h.1\nedge h.0 t.0\nedge t.0 h.0\nedge t.1 k.0": "error 76",
		"plan 2\ntask s source 0\ntask k sink\ntask u union\ntask e tee\nedge s.0 u.0\nedge e.1 u.1\nedge u.0 e.0\nedge e.0 k.0":       "error 77",
		"plan 2\ntask s source 0\ntask k sink\nedge s.0 k.0\nedge s.0 k.0":                                                             "error 75",
		"plan 2\ntask s source 0\ntask k sink\nedge s.0 x.0":                                                                           "fault 4 9 error 63",
		"plan 2\ntask s source 0\n task k sink \nedge s.0 k.0 # a remark":                                                              "fault 4 13 error 61",
		"plan 2\n" + strings.Repeat("task s source 0\n", 1) + strings.Repeat("#\n", 1400) + "task k sink\nedge s.0 k.0\n":              "ok",
	} {
		if want == "ok" {
			line().open(t)
			if _, err := engine.New(text, line().tapes, 1, nil); err != nil {
				t.Errorf("P19.1: %q is refused: %v", text, err)
			}
			continue
		}
		refused(t, "P19.1", ground{text: text, tapes: line().tapes, mode: 1}, want)
	}
}

// TestTapesThatNoSourceNames: they are read and refused all the same, and count in the sum.
func TestTapesThatNoSourceNames(t *testing.T) {
	tape := line().tapes[0]
	refused(t, "P19.1", line().with(tape, "", "", "x"), "fault 1 0 error 67")
	refused(t, "P19.1", line().with(tape, "\"a\" 1 2"), "fault 1 6 error 28")
	with := func(more ...string) ground { return line().with(append([]string{tape}, more...)...) }
	grounds := []ground{with(), with(""), with("", ""), with("\"a\" 1"), with("", "\"a\" 1"), with("\"a\" 1\n\"b\" 1"), with("", "", "")}
	for k, g := range grounds {
		e := plays(t, "P19.1", g, "pick 0 0; pick 1 0; trigger; pick 0 0; pick 1 0; post; post -> 1 1 6 2 2 7 9", "shot 1 = 1 {1} {1 [] <a=1>}")
		for n, other := range grounds {
			want := map[bool]string{true: "status = up last 1 next 2", false: "status = up next 2"}[n == k]
			plays(t, "P19.1, P19.2", other.over(e.Files()...), want, "outs = a=1")
		}
	}
}

// TestNewOverFiles: bytes that aren't sure are lost, as by a recover without numbers.
func TestNewOverFiles(t *testing.T) {
	data := []byte("0123456789")
	for sure := range 11 {
		e := plays(t, "P19.1", line().over(api.File{Name: "other", Data: data, Synced: sure}, api.File{Name: "empty"}), "status = up next 1", "files = empty, other", "trail = up 0")
		if f := e.Files()[1]; string(f.Data) != string(data[:sure]) || f.Synced != sure {
			t.Errorf("P19.1: of ten bytes, %d of them sure, %d are left", sure, len(f.Data))
		}
	}
	shots := plays(t, "P19.4", line(), "pick 0 0; pick 1 0; trigger; pick 0 0; pick 1 0; post; post -> 1 1 6 2 2 7 9", "files = man-0001, out-01, seg-0001-00, seg-0001-01").Files()
	for k, f := range shots {
		for sure := range len(f.Data) {
			files := slices.Clone(shots)
			files[k].Synced = sure
			lines := []string{"status = up next 2", "config = 0 / 0 # #", "outs = a=1", "files = out-01"}
			if f.Name == "out-01" {
				lines = []string{"status = up last 1 next 2", "config = 1 / 1 # # a=1", "outs = a=1", "files = man-0001, out-01, seg-0001-00, seg-0001-01", "trail = up 1, commit 1 1"}
			}
			plays(t, fmt.Sprint("P19.1, ", f.Name, " of which ", sure, " bytes are sure"), line().over(files...), lines...)
		}
	}
}

// TestOrderOfFiles: in which order the files are handed in is not seen.
func TestOrderOfFiles(t *testing.T) {
	shots := plays(t, "P19.4", line(), "pick 0 0; pick 1 0; trigger; pick 0 0; pick 1 0; post; post -> 1 1 6 2 2 7 9").Files()
	slices.Reverse(shots)
	e := plays(t, "P19.1", line().over(shots...), "status = up last 1 next 2", "files = man-0001, out-01, seg-0001-00, seg-0001-01")
	slices.Reverse(shots)
	if !sameFiles(e.Files(), shots) {
		t.Errorf("P19.1: the files are %s", filesTold(e.Files()))
	}
}
