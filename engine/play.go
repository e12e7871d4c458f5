package engine

import (
	"strconv"
	"strings"

	"eddy/api"
	"eddy/plan"
	"eddy/value"
)

// Play runs a script's text to its end and tells what came out.
func Play(plan, script string, mode int, tapes ...string) (string, error) {
	e, err := New(plan, tapes, mode, nil)
	if err != nil {
		return "", err
	}
	ops, err := opsOf(script)
	if err != nil {
		return "", err
	}
	for _, op := range ops {
		e.Do(op)
	}
	return e.told(), nil
}

func opsOf(script string) ([]api.Op, error) { return plan.ParseScript(script) }

// told writes what came out, sink by sink, and where the engine stands.
func (e *Engine) told() string {
	var lines []string
	for k, records := range e.Committed() {
		sink := e.plan.Tasks[e.shape.Sinks[k]]
		lines = append(lines, sink.Name+" "+strconv.Itoa(len(records)))
		for _, r := range records {
			lines = append(lines, "  "+recordTold(r))
		}
	}
	lines = append(lines, e.standing())
	return strings.Join(lines, "\n") + "\n"
}

func recordTold(r api.Record) string {
	words := []string{value.Print(api.Value{Kind: api.Text, Text: r.Key}), value.Print(r.Val)}
	if len(r.Loops) > 0 {
		words = append(words, "@"+loopsTold(r.Loops))
	}
	return strings.Join(words, " ")
}

func loopsTold(loops []int) string {
	var counters []string
	for _, c := range loops {
		counters = append(counters, strconv.Itoa(c))
	}
	return strings.Join(counters, ".")
}

// standing writes where the engine stands, and how many lives it had.
func (e *Engine) standing() string {
	s, words := e.Status(), []string{"down"}
	if s.Up {
		words[0] = "up"
	}
	if s.Halted {
		words = append(words, "halted")
	}
	return strings.Join(append(words, "last", strconv.Itoa(s.Last), "lives", strconv.Itoa(e.lives())), " ")
}

func (e *Engine) lives() int {
	count := 0
	for _, entry := range e.Trail() {
		if entry.Kind == api.TrailUp {
			count++
		}
	}
	return count
}
