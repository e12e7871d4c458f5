package value

import "eddy/api"

// fault is what a reading function panics with when what it reads is nothing of a value.
type fault struct {
	at  int
	err api.Errno
}

// giveUp ends a reading from however deep in the lists; the face catches it.
func giveUp(at int, err api.Errno) {
	panic(fault{at, err})
}

// asFault gives the fault of a reading that was caught. Any other panic is an error of the program's own and goes on: an answer must not hide it.
func asFault(caught any) fault {
	f, ok := caught.(fault)
	if !ok {
		panic(caught)
	}
	return f
}
