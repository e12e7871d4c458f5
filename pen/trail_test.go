package pen_test

import (
	"reflect"
	"testing"

	"eddy/api"
	"eddy/pen"
)

func TestTrails(t *testing.T) {
	for text, want := range map[string][]api.Trail{
		"":                                     nil,
		"step 1.0":                             {{Kind: api.TrailStep, Task: 1}},
		"mark 0.2 7, copy 1 7, part 2 7":       {{Kind: api.TrailMark, Port: 2, Id: 7}, {Kind: api.TrailCopy, Task: 1, Id: 7}, {Kind: api.TrailPart, Task: 2, Id: 7}},
		"trigger 7, ready 8, complete 9":       {{Kind: api.TrailTrigger, Id: 7}, {Kind: api.TrailReady, Id: 8}, {Kind: api.TrailComplete, Id: 9}},
		"abort -1, commit 1 5, down, up 0":     {{Kind: api.TrailAbort, Id: -1}, {Kind: api.TrailCommit, Task: 1, Id: 5}, {Kind: api.TrailDown}, {Kind: api.TrailUp}},
		"{0 0 0 0}, {12 -1 2 3}, {1 0 0 5}":    {{}, {Kind: 12, Task: -1, Port: 2, Id: 3}, {Kind: api.TrailStep, Id: 5}},
		"{10 0 0 1}, {11 0 1 0}, {5 2 0 1}":    {{Kind: api.TrailDown, Id: 1}, {Kind: api.TrailUp, Port: 1}, {Kind: api.TrailTrigger, Task: 2, Id: 1}},
		"{3 0 1 1}, {9 0 1 0}, mark -1.-2 -3":  {{Kind: api.TrailCopy, Port: 1, Id: 1}, {Kind: api.TrailCommit, Port: 1}, {Kind: api.TrailMark, Task: -1, Port: -2, Id: -3}},
		"down, step 0.0, step 0.0, step 3.1":   {{Kind: api.TrailDown}, {Kind: api.TrailStep}, {Kind: api.TrailStep}, {Kind: api.TrailStep, Task: 3, Port: 1}},
		"copy 0 1, ready 1, up 1, trigger 999": {{Kind: api.TrailCopy, Id: 1}, {Kind: api.TrailReady, Id: 1}, {Kind: api.TrailUp, Id: 1}, {Kind: api.TrailTrigger, Id: 999}},
	} {
		if got := pen.ReadTrail(text); !reflect.DeepEqual(got, want) {
			t.Errorf("the trail %q is read as %v, want %v", text, got, want)
		}
		if got := pen.TellTrail(want); got != text {
			t.Errorf("the trail %v is told as %q, want %q", want, got, text)
		}
	}
	if got := pen.ReadTrail(" step  1.0,,\n\tdown , "); len(got) != 2 {
		t.Errorf("with other blanks a trail is read as %v", got)
	}
}

func TestTrailsThatCantBeRead(t *testing.T) {
	for _, text := range []string{"step", "step 1", "step 1.0 2", "mark 0.0", "mark 0 0 1", "copy 1", "copy 1 2 3", "ready", "ready x", "ready 1 1", "down 0", "up", "{1 2 3}", "{1 2 3 x}", "nothing", "1"} {
		func() {
			defer func() {
				if recover() == nil {
					t.Errorf("%q is read", text)
				}
			}()
			pen.ReadTrail(text)
		}()
	}
}

func TestTellEvents(t *testing.T) {
	for _, text := range []string{"", "0.0", "0.0 2.-1 0.0"} {
		if got := pen.TellEvents(pen.ReadEvents(text)); got != text {
			t.Errorf("the events %q are told as %q", text, got)
		}
	}
}
