// Package frame: checksums and framed bytes: see doc/01-frame.md.
package frame

import "eddy/api"

// Wrap makes the frame of a body.
func Wrap(body []byte) ([]byte, api.Errno) {
	n := len(body)
	if n > api.MaxBody {
		return nil, api.ErrFrameBody
	}
	head, tail := headOf(n), tailOf(Sum(body))
	b := make([]byte, sizeOf(n))
	copy(b, head[:])
	copy(b[headSize:], body)
	copy(b[headSize+n:], tail[:])
	return b, api.OK
}

// Unwrap reads the frame at the beginning of b: its body, its size.
func Unwrap(b []byte) ([]byte, int, api.Errno) {
	n, e := readHead(b)
	if e != api.OK {
		return nil, 0, e
	}
	size := sizeOf(n)
	if len(b) < size {
		return nil, 0, api.ErrFrameCut
	}
	inside := b[headSize : headSize+n]
	var tail [tailSize]byte
	copy(tail[:], b[headSize+n:])
	if tail != tailOf(Sum(inside)) {
		return nil, 0, api.ErrFrameSum
	}
	body := make([]byte, n)
	copy(body, inside)
	return body, size, api.OK
}

// Exact reads b as one frame with nothing behind it.
func Exact(b []byte) ([]byte, api.Errno) {
	body, size, e := Unwrap(b)
	if e != api.OK {
		return nil, e
	}
	if len(b) > size {
		return nil, api.ErrFrameBehind
	}
	return body, api.OK
}

// Scan reads whole frames from the beginning: their bodies, their bytes, why it ends there.
func Scan(b []byte) ([][]byte, int, api.Errno) {
	var bodies [][]byte
	good := 0
	for good < len(b) {
		body, size, e := Unwrap(b[good:])
		if e != api.OK {
			return bodies, good, e
		}
		bodies = append(bodies, body)
		good += size
	}
	return bodies, good, api.OK
}
