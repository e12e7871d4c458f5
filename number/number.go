// Package number: how a number stands in bytes: see P4.1 of doc/04-wire.md.
package number

import "eddy/api"

const (
	groupBits = 7
	moreBit   = 0x80
	// maxGroups groups hold every number up to the greatest bound.
	maxGroups = 5
)

// Append lays a number from 0 on behind b.
func Append(b []byte, n int) []byte {
	for n >= moreBit {
		b = append(b, byte(n)|moreBit)
		n >>= groupBits
	}
	return append(b, byte(n))
}

// Lead reads the number at the beginning of b: the number, and of how many bytes it is.
func Lead(b []byte, bound int) (n, size int, e api.Errno) {
	var read uint64
	for k, group := range b[:min(len(b), maxGroups)] {
		read |= uint64(group&^moreBit) << (groupBits * k)
		if group&moreBit == 0 {
			return ended(read, k+1, bound, group == 0)
		}
	}
	if len(b) < maxGroups {
		return 0, 0, api.ErrWireShort
	}
	return 0, 0, api.ErrWireForm
}

// ended gives a number whose last group has been read; zero says that this group is 0, and so not needed behind another one.
func ended(read uint64, size, bound int, zero bool) (int, int, api.Errno) {
	switch {
	case zero && size > 1:
		return 0, 0, api.ErrWireForm
	case read > uint64(bound):
		return 0, 0, api.ErrWireBound
	}
	return int(read), size, api.OK
}
