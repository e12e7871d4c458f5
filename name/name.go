// Package name: what the name of a task may be, and how the file of a sink is called.
package name

import (
	"strconv"
	"strings"

	"eddy/api"
)

const (
	letters = "abcdefghijklmnopqrstuvwxyz"
	digits  = "0123456789"
)

// Fits tells whether a text may be a name: one to MaxName letters and digits, a letter first.
func Fits(s string) bool {
	if s == "" || len(s) > api.MaxName || strings.Trim(s, letters+digits) != "" {
		return false
	}
	return strings.IndexByte(letters, s[0]) >= 0
}

// OfLog gives the name of the file that holds the output log of a sink with this task number, which has two digits.
func OfLog(sink int) string { return "out-" + strconv.Itoa(sink/10) + strconv.Itoa(sink%10) }
