package vault

import (
	"errors"

	"eddy/api"
)

// fault: a file at which something went wrong, and why. An error that belongs to no file is an Errno by itself.
type fault struct {
	name string
	why  error
}

func (f *fault) Error() string { return f.name + ": " + f.why.Error() }

func (f *fault) Unwrap() error { return f.why }

// lost tells an error of a shot as the face does.
func lost(id int, err error) error {
	var why api.Errno
	if !errors.As(err, &why) {
		return nil
	}
	all := &api.Lost{Id: id, Err: why}
	var at *fault
	if errors.As(err, &at) {
		all.Name = at.name
	}
	return all
}
