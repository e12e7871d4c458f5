package wire

// The form of a word, for writing and for reading.
const (
	wordBytes = 4
	byteBits  = 8
)

// The bytes with which a form begins, so that one isn't taken for another.
const (
	segmentByte  = 83
	manifestByte = 77
	rowByte      = 79
)
