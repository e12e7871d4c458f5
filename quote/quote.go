// Package quote: where a text in quotes ends, for all layers that find one within a longer text.
package quote

// Size counts the bytes of the text in quotes with which s begins: from its first byte, which is taken for the opening quote, to the next double quote ahead of which directly stands an even number of backslashes; all of s, if there is none.
func Size(s string) int {
	slashes := 0
	for at := 1; at < len(s); at++ {
		switch {
		case s[at] == '\\':
			slashes++
		case s[at] == '"' && slashes%2 == 0:
			return at + 1
		default:
			slashes = 0
		}
	}
	return len(s)
}
