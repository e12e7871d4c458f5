package scale

import (
	"slices"

	"eddy/api"
	"eddy/disk"
	"eddy/heal"
	"eddy/name"
	"eddy/outlet"
	"eddy/plan"
	"eddy/texts"
	"eddy/vault"
)

// filesOf spreads the task of a name in a plan's text, and moves what a disk holds.
func filesOf(text string, tapes []string, task string, files []api.File, bounds []string) (string, []api.File, error) {
	job, err := texts.Read(text, tapes)
	if err != nil {
		return "", nil, err
	}
	old, e := disk.New(files)
	if e != api.OK {
		return "", nil, e
	}
	s, e := spreadOf(job.Plan, taskNamed(job.Plan, task), bounds)
	if e != api.OK {
		return "", nil, e
	}
	wide, err := plan.PrintPlan(s.wide)
	if err != nil {
		return "", nil, err
	}
	moved, err := s.store(job.Tapes, old)
	return wide, moved, err
}

// store moves the output logs of a disk, and the newest shot that lies on it, to a disk of the spread plan, and gives its files. No refusal but the save's can come here: neither disk has a fault set.
func (s spread) store(tapes [][]api.Record, old *disk.Disk) ([]api.File, error) {
	old.Restart(nil)
	logs, outs, err := s.logs(old)
	if err != nil {
		return nil, err
	}
	found, e := heal.Newest(vault.Open(old), s.plan, s.shape, tapes, outs)
	if e != api.OK {
		return nil, e
	}
	d, e := disk.New(logs)
	if e != api.OK {
		return nil, e
	}
	if found.Id > 0 {
		if err := vault.Open(d).Save(s.shot(tapes, found.Shot)); err != nil {
			return nil, err
		}
	}
	return d.Files(), nil
}

// logs opens the output logs of the sinks, which cuts off what is torn, and gives the files of those that have one, and the records of all.
func (s spread) logs(old *disk.Disk) ([]api.File, [][]api.Record, error) {
	var names []string
	var outs [][]api.Record
	for _, sink := range s.shape.Sinks {
		log, err := outlet.Open(old, sink)
		if err != nil {
			return nil, nil, err
		}
		names, outs = append(names, name.OfLog(sink)), append(outs, log.Records())
	}
	logs := slices.DeleteFunc(old.Files(), func(f api.File) bool { return !slices.Contains(names, f.Name) })
	return logs, outs, nil
}
