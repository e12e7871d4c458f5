package witness

import "eddy/api"

// canBe tells whether a runner or an engine of so many tasks could have told such entries.
func canBe(l []api.Trail, tasks int) bool {
	if tasks < 1 || tasks > api.MaxTasks {
		return false
	}
	for _, entry := range l {
		if !entryCanBe(entry, tasks) {
			return false
		}
	}
	return true
}

// entryCanBe holds an entry against the one that has only what its kind has: the fields that its kind doesn't tell must be 0.
func entryCanBe(entry api.Trail, tasks int) bool {
	isTask := entry.Task >= 0 && entry.Task < tasks
	isPort := entry.Port >= 0 && entry.Port < api.MaxPorts
	isShot := entry.Id >= 1 && entry.Id <= api.MaxId
	switch entry.Kind {
	case api.TrailStep:
		return isTask && isPort && entry == stepOf(eventOf(entry))
	case api.TrailMark:
		return isTask && isPort && isShot
	case api.TrailCopy, api.TrailPart:
		return isTask && isShot && entry == api.Trail{Kind: entry.Kind, Task: entry.Task, Id: entry.Id}
	case api.TrailTrigger, api.TrailReady, api.TrailComplete, api.TrailAbort:
		return isShot && entry == api.Trail{Kind: entry.Kind, Id: entry.Id}
	case api.TrailCommit:
		return isTask && entry.Id >= 0 && entry == api.Trail{Kind: entry.Kind, Task: entry.Task, Id: entry.Id}
	case api.TrailDown:
		return entry == api.Trail{Kind: entry.Kind}
	case api.TrailUp:
		return (isShot || entry.Id == 0) && entry == api.Trail{Kind: entry.Kind, Id: entry.Id}
	}
	return false
}

// eventOf gives the event that a step's entry tells.
func eventOf(entry api.Trail) api.Event { return api.Event{Task: entry.Task, Port: entry.Port} }

// stepOf gives the entry that tells an event.
func stepOf(event api.Event) api.Trail {
	return api.Trail{Kind: api.TrailStep, Task: event.Task, Port: event.Port}
}

// steps gives the events of entries.
func steps(entries []api.Trail) []api.Event {
	var all []api.Event
	for _, entry := range entries {
		if entry.Kind == api.TrailStep {
			all = append(all, eventOf(entry))
		}
	}
	return all
}
