package engine

import (
	"eddy/api"
	"eddy/heal"
	"eddy/texts"
)

// A job is what an engine has to do, over all its lives: a valid plan with its shape, tapes for it, a mode, and the sum that its shots carry.
type job struct {
	plan  api.Plan
	shape api.Shape
	tapes [][]api.Record
	mode  int
	sum   uint32
}

// jobOf reads the texts of a plan and of its tapes, or tells why there is no such job.
func jobOf(text string, tapes []string, mode int) (job, error) {
	if mode < api.Aligned || mode > api.Overtaking {
		return job{}, api.ErrEngMode
	}
	read, err := texts.Read(text, tapes)
	if err != nil {
		return job{}, err
	}
	return job{plan: read.Plan, shape: read.Shape, tapes: read.Tapes, mode: mode, sum: heal.Sum(read.Plan, read.Tapes)}, nil
}
