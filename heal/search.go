package heal

import (
	"errors"
	"strconv"
	"strings"

	"eddy/api"
	"eddy/flow"
)

// store: what is asked of a vault.
type store interface {
	Next() int
	Load(id int) (api.Shot, error)
}

// search: what a stored shot must belong to, and the outputs that are committed.
type search struct {
	plan        api.Plan
	shape       api.Shape
	tapes, outs [][]api.Record
}

// newest goes down from the newest number on, up to the first shot that holds.
func (s search) newest(v store) (api.Found, api.Errno) {
	next := nextOf(v)
	if next == 0 {
		return api.Found{}, api.ErrDiskDown
	}
	var passed []*api.Lost
	for id := next - 1; id > 0; id-- {
		shot, config, err := s.held(v, id)
		switch {
		case err == nil:
			return api.Found{Id: id, Shot: shot, Config: config, Lost: passed}, api.OK
		case errors.Is(err, api.ErrDiskDown):
			return api.Found{}, api.ErrDiskDown
		case !isNoShot(id, err):
			passed = append(passed, lost(id, err))
		}
	}
	start, e := s.start()
	if e != api.OK {
		return api.Found{}, e
	}
	return api.Found{Config: start, Lost: passed}, api.OK
}

// nextOf asks a vault for its next number. One that has no disk panics there: it counts as a machine that is down.
func nextOf(v store) (next int) {
	defer func() {
		if recover() != nil {
			next = 0
		}
	}()
	return v.Next()
}

// held loads a shot and tells its configuration, or why it is passed over.
func (s search) held(v store, id int) (api.Shot, api.Config, error) {
	shot, err := v.Load(id)
	if err != nil {
		return api.Shot{}, api.Config{}, err
	}
	if e := Fits(s.plan, s.shape, s.tapes, shot); e != api.OK {
		return api.Shot{}, api.Config{}, e
	}
	config, e := Config(s.plan, s.shape, shot, s.outs)
	if e != api.OK {
		return api.Shot{}, api.Config{}, e
	}
	return shot, config, nil
}

// start gives the initial configuration; an error, if the plan or the tapes are none.
func (s search) start() (api.Config, api.Errno) {
	f, e := flow.New(s.plan, s.tapes)
	if e != api.OK {
		return api.Config{}, e
	}
	return f.Start(), api.OK
}

// isNoShot tells whether nothing was ever stored with this number, or all of it was taken away.
func isNoShot(id int, err error) bool {
	return errors.Is(err, api.ErrVaultGone) && fileOf(err) == manifestName(id)
}

// lost tells of a number that is passed over.
func lost(id int, err error) *api.Lost {
	var why api.Errno
	errors.As(err, &why)
	return &api.Lost{Id: id, Name: fileOf(err), Err: why}
}

// fileOf gives the file at which it went wrong; a shot that doesn't fit has none.
func fileOf(err error) string {
	var told *api.Lost
	if !errors.As(err, &told) {
		return ""
	}
	return told.Name
}

// manifestName is the name by which a vault tells that a whole shot is gone, not a piece of one.
func manifestName(id int) string {
	digits := strconv.Itoa(id)
	return "man-" + strings.Repeat("0", max(4-len(digits), 0)) + digits
}
