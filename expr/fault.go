package expr

import "eddy/api"

// giveUp ends a reading from however deep in the grammar; parse catches it.
func giveUp(at int, err api.Errno) {
	panic(&api.Fault{At: at, Err: err})
}

// asFault gives the fault of a reading that was caught. Any other panic is an error of the program's own and goes on: an answer must not hide it.
func asFault(caught any) *api.Fault {
	f, ok := caught.(*api.Fault)
	if !ok {
		panic(caught)
	}
	return f
}
