// Package memory: what hangs on things of package api: their lists, each with the spare room behind it, and their texts. It is for the tests of the layers alone, which look whether a call changes, keeps or shares what it is handed, or what it answered before. No layer calls it.
package memory

import (
	"strconv"
	"strings"
)

// Memory: all that hangs on some things.
type Memory struct {
	lists []list
	texts []string
}

// Of gathers what hangs on some things: numbers, texts, things of package api, and lists of these.
func Of(things ...any) *Memory {
	m := &Memory{}
	m.add(things...)
	return m
}

// Texts gives the texts. A test that has lent their bytes can write over them.
func (m *Memory) Texts() []string { return append([]string(nil), m.texts...) }

// Told writes all lists, their spare room too: so a test sees whether anything of it has changed.
func (m *Memory) Told() string {
	var all strings.Builder
	for _, l := range m.lists {
		all.WriteString(l.told())
		all.WriteByte('\n')
	}
	return all.String()
}

// Scribble writes over all lists, their spare room too.
func (m *Memory) Scribble() {
	for _, l := range m.lists {
		l.fill("scribbled", 4711)
	}
}

// Extend appends to each list, and lets go of what that gives: nothing of it may be seen in another one.
func (m *Memory) Extend() {
	for _, l := range m.lists {
		l.extend()
	}
}

// Apart writes over all lists, in each with a mark of its own, and tells whether each holds its mark then: whether no two of them share memory, spare room too.
func (m *Memory) Apart() bool {
	marked := make([]string, len(m.lists))
	for k, l := range m.lists {
		l.fill(strconv.Itoa(k), k)
		marked[k] = l.told()
	}
	for k, l := range m.lists {
		if l.told() != marked[k] {
			return false
		}
	}
	return true
}

// Roomy copies a thing of those that Of takes: behind each list lies spare room that holds marks, each text is what lend makes of it.
func Roomy[T any](thing T, lend func(string) string) T { return roomy(thing, lend).(T) }
