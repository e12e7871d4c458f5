package scale_test

import (
	"fmt"
	"testing"

	"eddy/pen"
	"eddy/scale"
)

// TestExamples: the chapter's four.
func TestExamples(t *testing.T) {
	if got := fmt.Sprint(scale.Place("m", "g", "p"), scale.Place("g", "g", "p"), scale.Place("", "g"), scale.Place("z", "g", "p"), scale.Place("a"), scale.Place("b", "z", "a")); got != "1 1 0 2 0 1" {
		t.Errorf("example 1: %s", got)
	}
	g := sums()
	g.plan.Cap = 2
	g.wantSpread(t, "example 2", `cap 2 / s 1 0 [] / f 4 0 ["0" "acc+val"] / k 13 0 [] / x0 6 0 ["if key<\"g\"then0else1"] / x1 4 0 ["0" "acc+val"] / x2 5 0 []
		/ 0.0 3.0 / 5.0 2.0 / 3.0 1.0 / 3.1 4.0 / 1.0 5.0 / 4.0 5.1`)
	g.at(0).wantSpread(t, "example 2", "error 200")
	g.by().wantSpread(t, "example 2", "error 201")
	g.by("g", "g").wantSpread(t, "example 2", "error 201")
	g.wantMove(t, "example 3", configOf("0 / 0; a:[1]; m:[5]; z:[2] / 0 # / #"), "0 / 0; a:[1] / 0 / 0 / 0; m:[5]; z:[2] / 0 # / / / / / #")
	g.wantFollow(t, "example 4", configOf("0 / 0 / 0 # m=4 / #"), pen.ReadEvents("1.0"), "3.0 4.0 5.1")
}
