// Package name: what the name of a task may be.
package name

import (
	"strings"

	"eddy/api"
)

const (
	letters = "abcdefghijklmnopqrstuvwxyz"
	digits  = "0123456789"
)

// Fits tells whether a text may be a name: one to MaxName letters and digits, a letter first.
func Fits(s string) bool {
	if s == "" || len(s) > api.MaxName || strings.Trim(s, letters+digits) != "" {
		return false
	}
	return strings.IndexByte(letters, s[0]) >= 0
}
