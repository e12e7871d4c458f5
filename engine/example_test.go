package engine_test

import (
	"testing"

	"eddy/api"
	"eddy/engine"
)

// TestExamples: the chapter's examples 3 to 9.
func TestExamples(t *testing.T) {
	plays(t, "Example 3", line().in(3),
		"pick 0 0; pick 0 0; trigger; pick 0 0; pick 1 0; post; post -> 1 1 6 2 2 7 9",
		"shot 1 = 1 {2} {0 [a=1 | b=2]}",
		"crash; recover; pick 1 0; pick 1 0 -> 11 12 1 1")
	plays(t, "Examples 4 and 5", loop().in(1),
		"pick 0 0; pick 1 0; pick 2 0; trigger; trigger -> 1 1 1 6 0",
		"config = 1 / 0 / 0 / 0 # / / a=1@1 / #",
		"pick 0 0; pick 1 0; pick 1 1; pick 2 0; pick 1 1; pick 3 0; pick 3 0 -> 2 2 1 2 2 2 4",
		"post; post; post; post; post -> 7 7 7 9 4",
		"shot 1 = 1 {1} {0 [] [a=1@1]} {0 []} {0 []}",
		"crash; pick 2 0; trigger; post; recover -> 11 11 11 11 12",
		"config = 1 / 0 / 0 / 0 # / / a=1@1 / #",
		"pick 1 1; pick 2 0; pick 1 1; pick 2 0; pick 3 0 -> 1 1 1 1 1",
		"config = 1 / 0 / 0 / 1 # / / / # a=1",
		"outs =",
		"trigger; pick 0 0; pick 1 0; pick 2 0; pick 1 1; pick 3 0; post; post; post; post -> 6 2 2 2 2 2 7 7 7 9",
		"outs = a=1")
	plays(t, "Examples 6 and 7", line().in(2),
		"pick 0 0; pick 1 0; trigger; pick 0 0; pick 1 0; post; fail 1; post -> 1 1 6 2 2 7 14 10",
		"status = up next 2 aborts 1", "files =",
		"trigger; pick 0 0; pick 1 0; post; post -> 6 2 2 7 9",
		"files = man-0002, out-01, seg-0002-00, seg-0002-01",
		"pick 0 0; pick 1 0; trigger; pick 0 0; pick 1 0; post; arm 3; post; post -> 1 1 6 2 2 7 14 11 11",
		"files = man-0002, out-01, seg-0002-00, seg-0002-01, seg-0003-00 0/3",
		"recover 2 -> 12",
		"status = up last 2 next 4",
		"files = man-0002, out-01, seg-0002-00, seg-0002-01")
	plays(t, "Example 8", line().in(2),
		"pick 0 0; pick 1 0; trigger; pick 0 0; pick 1 0; post; post -> 1 1 6 2 2 7 9",
		"pick 0 0; pick 1 0; trigger; pick 0 0; pick 1 0; post; post -> 1 1 6 2 2 7 9",
		"outs = a=1 | b=2",
		"spoil 1 40; crash; recover -> 14 11 12",
		"status = up last 1 next 3", "outs = a=1 | b=2", "config = 1 / 1 # # a=1",
		"pick 0 0; pick 1 0; trigger; pick 0 0; pick 1 0; post; post -> 1 1 6 2 2 7 9",
		"outs = a=1 | b=2")
	plays(t, "Example 9", line().in(1).over(api.File{Name: "man-9999"}),
		"status = up next 10000",
		"pick 0 0; pick 1 0 -> 1 1", "trigger; pick 0 0; crash; recover -> 13 13 13 13",
		"status = up halted next 10000", "config = 1 / 1 # # a=1")
}

// TestExamplesOfPlay: the chapter's examples 1 and 2.
func TestExamplesOfPlay(t *testing.T) {
	stored := "pick 0 0; pick 1 0; trigger; pick 0 0; pick 1 0; post; post"
	played(t, "Example 1", line().in(2), stored, "k 1\n  \"a\" 1\nup last 1 lives 1\n")
	played(t, "Example 2", line().in(1), "pick 0 0; pick 1 0; crash; recover", "k 0\nup last 0 lives 2\n")
	played(t, "Example 2", line().in(2), stored+"; crash", "k 1\n  \"a\" 1\ndown last 1 lives 1\n")
	played(t, "Example 2", line().in(1), stored+"; crash", "k 1\n  \"a\" 1\ndown last 1 lives 1\n")
}

// TestExamplesOfErrors: the chapter's example 10.
func TestExamplesOfErrors(t *testing.T) {
	five := []string{"", "", "", "", ""}
	refused(t, "Example 10", ground{tapes: five, mode: 0}, "error 190")
	refused(t, "Example 10", ground{text: "plan 2 3", tapes: five, mode: 1}, "fault 1 7 error 61")
	refused(t, "Example 10", ground{text: "plan 2\ntask s source 0", mode: 1}, "error 75")
	refused(t, "Example 10", line().with(five...), "error 191")
	refused(t, "Example 10", line().with(), "error 90")
	refused(t, "Example 10", line().over(api.File{Name: "A"}), "error 105")
	if got, err := engine.Play(line().text, "nonsense", 4, line().tapes...); got != "" || err != api.ErrEngMode {
		t.Errorf("Example 10: Play answers %q, %v", got, err)
	}
}
