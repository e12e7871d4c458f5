package engine

import (
	"eddy/api"
	"eddy/flow"
	"eddy/heal"
	"eddy/plan"
	"eddy/shape"
)

// A job is what an engine has to do, over all its lives: a valid plan with its shape, tapes for it, a mode, and the sum that its shots carry.
type job struct {
	plan  api.Plan
	shape api.Shape
	tapes [][]api.Record
	mode  int
	sum   uint32
}

// jobOf reads the texts of a plan and of its tapes, or tells why there is no such job.
func jobOf(text string, tapes []string, mode int) (job, error) {
	if mode < api.Aligned || mode > api.Overtaking {
		return job{}, api.ErrEngMode
	}
	p, err := plan.ParsePlan(text)
	if err != nil {
		return job{}, err
	}
	sh, _, e := shape.Build(p)
	if e != api.OK {
		return job{}, e
	}
	records, err := tapesOf(tapes)
	if err != nil {
		return job{}, err
	}
	if _, e := flow.New(p, records); e != api.OK {
		return job{}, e
	}
	return job{plan: p, shape: sh, tapes: records, mode: mode, sum: heal.Sum(p, records)}, nil
}

// tapesOf reads all tapes, those that no source names too.
func tapesOf(texts []string) ([][]api.Record, error) {
	if len(texts) > api.MaxTapes {
		return nil, api.ErrEngTapes
	}
	var all [][]api.Record
	for _, text := range texts {
		records, err := plan.ParseTape(text)
		if err != nil {
			return nil, err
		}
		all = append(all, records)
	}
	return all, nil
}
