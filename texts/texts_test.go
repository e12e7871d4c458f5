package texts_test

import (
	"fmt"
	"reflect"
	"testing"

	"eddy/api"
	"eddy/pen"
	"eddy/plan"
	"eddy/shape"
	"eddy/texts"
)

const line = "plan 2\ntask s source 1\ntask k sink\nedge s.0 k.0\n"

// TestRead: what is read is what the layers below read of each text.
func TestRead(t *testing.T) {
	job, err := texts.Read(line, []string{"\"c\" 3\n", "\"a\" 1\n\"b\" 2\n", "# none\n"})
	p, _ := plan.ParsePlan(line)
	sh, _, _ := shape.Build(p)
	if err != nil || !reflect.DeepEqual(job.Plan, p) || !reflect.DeepEqual(job.Shape, sh) || pen.TellLists(job.Tapes) != pen.TellLists(pen.ReadLists("c=3 / a=1 | b=2 /")) {
		t.Errorf("P19.1: Read gives %+v, %v", job, err)
	}
}

// TestReadErrors: each error ahead of the next, with its type, line and place; and nothing beside it.
func TestReadErrors(t *testing.T) {
	for _, x := range []struct {
		text  string
		tapes []string
		want  string
	}{
		{"plan", make([]string, 5), "&api.Fault{Line:1, At:4, Err:62}"},
		{"plan 1\ntask s source 0\n", []string{"x", "", "", "", ""}, "75"},
		{line, []string{"x", "", "", "", ""}, "191"},
		{line, []string{"", "x", "\"a\""}, "&api.Fault{Line:1, At:0, Err:67}"},
		{line, []string{"", "", "\n\"a\""}, "&api.Fault{Line:2, At:3, Err:28}"},
		{line, []string{"x"}, "&api.Fault{Line:1, At:0, Err:67}"},
		{line, []string{""}, "90"}, {line, nil, "90"}, {line, []string{"", "", "", ""}, "<nil>"},
	} {
		job, err := texts.Read(x.text, x.tapes)
		got := fmt.Sprintf("%#v", err)
		if e, ok := err.(api.Errno); ok {
			got = fmt.Sprint(int(e))
		}
		if got != x.want || err != nil && !reflect.DeepEqual(job, texts.Job{}) {
			t.Errorf("P19.1: Read of %q with the tapes %q gives %+v, %s, want %s", x.text, x.tapes, job, got, x.want)
		}
	}
}
