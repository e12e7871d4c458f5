package wire

// The form of a number, for writing and for reading.
const (
	groupBits = 7
	moreBit   = 0x80
	// maxGroups groups hold every number up to the greatest bound.
	maxGroups = 5
	wordBytes = 4
	byteBits  = 8
)

// The bytes with which a form begins, so that one isn't taken for another.
const (
	segmentByte  = 83
	manifestByte = 77
	rowByte      = 79
)
