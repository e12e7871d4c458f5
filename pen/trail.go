package pen

import (
	"slices"
	"strconv"
	"strings"

	"eddy/api"
)

// entryWords gives the words of the kinds of entries, by their numbers.
func entryWords() []string {
	return []string{"", "step", "mark", "copy", "part", "trigger", "ready", "complete", "abort", "commit", "down", "up"}
}

// ReadTrail reads a trail: `step 1.0, mark 0.2 7, copy 1 7, part 1 7, trigger 7, ready 7, complete 7, abort 7, commit 1 5, down, up 7`; the empty text is none. An entry of any numbers is `{1 0 2 3}`: its kind, task, port and id.
func ReadTrail(text string) []api.Trail {
	var all []api.Trail
	for _, one := range strings.Split(text, ",") {
		if words := strings.Fields(one); len(words) > 0 {
			all = append(all, readEntry(words))
		}
	}
	return all
}

func readEntry(words []string) api.Trail {
	kind := slices.Index(entryWords(), words[0])
	switch {
	case words[0][0] == '{' && len(words) == 4:
		return api.Trail{Kind: ReadNumber(words[0][1:]), Task: ReadNumber(words[1]), Port: ReadNumber(words[2]), Id: ReadNumber(strings.TrimSuffix(words[3], "}"))}
	case kind == api.TrailStep && len(words) == 2:
		at := ReadEvents(words[1])[0]
		return api.Trail{Kind: kind, Task: at.Task, Port: at.Port}
	case kind == api.TrailMark && len(words) == 3:
		at := ReadEvents(words[1])[0]
		return api.Trail{Kind: kind, Task: at.Task, Port: at.Port, Id: ReadNumber(words[2])}
	case hasTask(kind) && len(words) == 3:
		return api.Trail{Kind: kind, Task: ReadNumber(words[1]), Id: ReadNumber(words[2])}
	case kind == api.TrailDown && len(words) == 1:
		return api.Trail{Kind: kind}
	case kind >= api.TrailTrigger && !hasTask(kind) && kind != api.TrailDown && len(words) == 2:
		return api.Trail{Kind: kind, Id: ReadNumber(words[1])}
	}
	panic("no entry: " + strings.Join(words, " "))
}

// hasTask tells whether the entries of a kind name a task and a number.
func hasTask(kind int) bool {
	return kind == api.TrailCopy || kind == api.TrailPart || kind == api.TrailCommit
}

// TellTrail writes a trail as ReadTrail reads it.
func TellTrail(l []api.Trail) string { return told(l, tellEntry, ", ") }

// tellEntry writes an entry by its words, if they tell all of it, else by its numbers.
func tellEntry(e api.Trail) string {
	task, port, id := strconv.Itoa(e.Task), strconv.Itoa(e.Port), strconv.Itoa(e.Id)
	if e.Kind >= api.TrailStep && e.Kind <= api.TrailUp {
		words := []string{entryWords()[e.Kind]}
		switch {
		case e.Kind == api.TrailStep:
			words = append(words, task+"."+port)
		case e.Kind == api.TrailMark:
			words = append(words, task+"."+port, id)
		case hasTask(e.Kind):
			words = append(words, task, id)
		case e.Kind != api.TrailDown:
			words = append(words, id)
		}
		if readEntry(words) == e {
			return strings.Join(words, " ")
		}
	}
	return "{" + strings.Join([]string{strconv.Itoa(e.Kind), task, port, id}, " ") + "}"
}

// TellEvents writes events as ReadEvents reads them.
func TellEvents(l []api.Event) string {
	return told(l, func(e api.Event) string { return strconv.Itoa(e.Task) + "." + strconv.Itoa(e.Port) }, " ")
}
