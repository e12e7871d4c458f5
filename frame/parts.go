package frame

import "eddy/api"

// The bytes of a frame's fixed parts: the head ahead of its body, the tail behind it.
const (
	headSize = 4
	tailSize = 4
)

// sizeOf tells how many bytes the frame of a body of n bytes has.
func sizeOf(n int) int { return headSize + n + tailSize }

// headOf makes the head of a frame; n is at most 65535, so that two bytes hold it.
func headOf(n int) [headSize]byte {
	rest := 65535 - n
	return [headSize]byte{byte(n), byte(n >> 8), byte(rest), byte(rest >> 8)}
}

// tailOf makes the tail of a frame whose body has the checksum sum.
func tailOf(sum uint32) [tailSize]byte {
	return [tailSize]byte{byte(sum), byte(sum >> 8), byte(sum >> 16), byte(sum >> 24)}
}

// readHead tells the body's length that the head at the beginning of b says.
func readHead(b []byte) (int, api.Errno) {
	if len(b) < headSize {
		return 0, api.ErrFrameCut
	}
	var head [headSize]byte
	copy(head[:], b)
	n := int(head[0]) | int(head[1])<<8
	if head != headOf(n) || n > api.MaxBody {
		return 0, api.ErrFrameHead
	}
	return n, api.OK
}
