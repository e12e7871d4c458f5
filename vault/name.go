package vault

import (
	"strconv"
	"strings"

	"eddy/api"
)

func manifestName(id int) string { return "man-" + digits(id, 4) }

func segmentName(id, task int) string { return "seg-" + digits(id, 4) + "-" + digits(task, 2) }

// digits writes a number with zeros ahead of it.
func digits(n, width int) string {
	s := strconv.Itoa(n)
	return strings.Repeat("0", max(width-len(s), 0)) + s
}

// shotOf gives the number of the shot that a file belongs to, and whether the file is the vault's at all. A name is the vault's if it is what the vault would write of the numbers in it: so signs, blanks and other lengths need no rules of their own.
func shotOf(name string) (int, bool) {
	kind, numbers, _ := strings.Cut(name, "-")
	idText, taskText, _ := strings.Cut(numbers, "-")
	id, _ := strconv.Atoi(idText)
	task, _ := strconv.Atoi(taskText)
	if id < 1 || id > api.MaxId || task < 0 || task >= api.MaxTasks {
		return 0, false
	}
	if kind == "man" {
		return id, name == manifestName(id)
	}
	return id, name == segmentName(id, task)
}

// isManifest tells whether a name of the vault's is that of a manifest.
func isManifest(name string) bool { return strings.HasPrefix(name, "man-") }
