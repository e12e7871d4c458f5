// Package texts: what is to be run, read from texts, for all layers that are handed a plan and its tapes so.
package texts

import (
	"eddy/api"
	"eddy/flow"
	"eddy/plan"
	"eddy/shape"
)

// A Job is a valid plan with its shape, and tapes for it.
type Job struct {
	Plan  api.Plan
	Shape api.Shape
	Tapes [][]api.Record
}

// Read reads the texts of a plan and of its tapes, or tells why there is no such job: by a Fault or an Errno itself.
func Read(text string, tapes []string) (Job, error) {
	p, err := plan.ParsePlan(text)
	if err != nil {
		return Job{}, err
	}
	sh, _, e := shape.Build(p)
	if e != api.OK {
		return Job{}, e
	}
	records, err := tapesOf(tapes)
	if err != nil {
		return Job{}, err
	}
	if _, e := flow.New(p, records); e != api.OK {
		return Job{}, e
	}
	return Job{Plan: p, Shape: sh, Tapes: records}, nil
}

// tapesOf reads all tapes, those that no source names too.
func tapesOf(texts []string) ([][]api.Record, error) {
	if len(texts) > api.MaxTapes {
		return nil, api.ErrEngTapes
	}
	var all [][]api.Record
	for _, text := range texts {
		records, err := plan.ParseTape(text)
		if err != nil {
			return nil, err
		}
		all = append(all, records)
	}
	return all, nil
}
