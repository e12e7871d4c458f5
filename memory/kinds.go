package memory

import (
	"strconv"
	"strings"

	"eddy/api"
)

// add goes through what hangs on things.
func (m *Memory) add(things ...any) {
	for _, thing := range things {
		switch x := thing.(type) {
		case int, byte, api.Edge, api.Event, api.Trail:
		case string:
			m.texts = append(m.texts, x)
		case api.Value:
			m.add(x.Text, x.Items)
		case api.Record:
			m.add(x.Key, x.Val, x.Loops)
		case api.Cell:
			m.add(x.Key, x.Vals)
		case api.State:
			m.add(x.Cells)
		case api.Part:
			m.add(x.State, x.Logs, x.Pend)
		case api.Shot:
			m.add(x.Parts)
		case api.Config:
			m.add(x.States, x.Lanes, x.Outs)
		case api.Task:
			m.add(x.Name, x.Exprs)
		case api.Plan:
			m.add(x.Tasks, x.Edges)
		case api.File:
			m.add(x.Name, x.Data)
		case api.Flight:
			m.add(x.Data)
		case api.Op:
			m.add(x.Keep)
		default:
			l := asList(x)
			l.items(m)
			m.lists = append(m.lists, l)
		}
	}
}

// roomy copies a thing.
func roomy(thing any, lend func(string) string) any {
	switch x := thing.(type) {
	case int, byte, api.Edge, api.Event, api.Trail:
		return x
	case string:
		return lend(x)
	case api.Value:
		x.Text, x.Items = lend(x.Text), Roomy(x.Items, lend)
		return x
	case api.Record:
		return api.Record{Key: lend(x.Key), Val: Roomy(x.Val, lend), Loops: Roomy(x.Loops, lend)}
	case api.Cell:
		return api.Cell{Key: lend(x.Key), Vals: Roomy(x.Vals, lend)}
	case api.State:
		return api.State{Num: x.Num, Cells: Roomy(x.Cells, lend)}
	case api.Part:
		return api.Part{State: Roomy(x.State, lend), Logs: Roomy(x.Logs, lend), Pend: Roomy(x.Pend, lend)}
	case api.Shot:
		x.Parts = Roomy(x.Parts, lend)
		return x
	case api.Config:
		return api.Config{States: Roomy(x.States, lend), Lanes: Roomy(x.Lanes, lend), Outs: Roomy(x.Outs, lend)}
	case api.Task:
		x.Name, x.Exprs = lend(x.Name), Roomy(x.Exprs, lend)
		return x
	case api.Plan:
		return api.Plan{Cap: x.Cap, Tasks: Roomy(x.Tasks, lend), Edges: Roomy(x.Edges, lend)}
	case api.File:
		return api.File{Name: lend(x.Name), Data: Roomy(x.Data, lend), Synced: x.Synced}
	case api.Flight:
		x.Data = Roomy(x.Data, lend)
		return x
	case api.Op:
		x.Keep = Roomy(x.Keep, lend)
		return x
	}
	return asList(thing).roomy(lend)
}

// mark gives a thing that tells a text or a number; a byte tells the lowest bits of the number alone.
func mark[T any](text string, number int) T {
	var thing T
	switch x := any(&thing).(type) {
	case *int:
		*x = number
	case *byte:
		*x = byte(number)
	case *[]byte:
		*x = []byte(text)
	case *string:
		*x = text
	case *api.Value:
		*x = api.Value{Kind: number, Int: int64(number), Text: text}
	case *api.Record:
		*x = api.Record{Key: text, Val: api.Value{Kind: number, Text: text}}
	case *[]api.Record:
		*x = []api.Record{{Key: text}}
	case *api.Cell:
		x.Key = text
	case *api.State:
		x.Num = number
	case *api.Part:
		x.State.Num = number
	case *api.Task:
		*x = api.Task{Name: text, Kind: number, Num: number}
	case *api.Edge:
		*x = api.Edge{From: number, Out: number, To: number, In: number}
	case *api.Event:
		*x = api.Event{Task: number, Port: number}
	case *api.Trail:
		*x = api.Trail{Kind: number, Task: number, Port: number, Id: number}
	case *api.File:
		*x = api.File{Name: text, Synced: number}
	case *api.Flight:
		*x = api.Flight{From: number, To: number}
	case *api.Op:
		*x = api.Op{Kind: number, A: number, B: number}
	}
	return thing
}

// flat writes a thing, but of most lists in it the lengths alone: they hang on it as lists of their own.
func flat(thing any) string {
	switch x := thing.(type) {
	case int:
		return strconv.Itoa(x)
	case byte:
		return strconv.Itoa(int(x))
	case []byte:
		return listOf[byte](x[:len(x):len(x)]).told()
	case string:
		return strconv.Quote(x)
	case api.Value:
		return words(flat(x.Kind), strconv.FormatInt(x.Int, 10), flat(x.Text), flat(len(x.Items)))
	case api.Record:
		return words(flat(x.Key), flat(x.Val), flat(len(x.Loops)))
	case []api.Record:
		return listOf[api.Record](x[:len(x):len(x)]).told()
	case api.Cell:
		return words(flat(x.Key), flat(len(x.Vals)))
	case api.State:
		return words(flat(x.Num), flat(len(x.Cells)))
	case api.Part:
		return words(flat(x.State), flat(len(x.Logs)), flat(len(x.Pend)))
	case api.Task:
		return words(flat(x.Name), flat(x.Kind), flat(x.Num), flat(len(x.Exprs)))
	case api.Edge:
		return words(flat(x.From), flat(x.Out), flat(x.To), flat(x.In))
	case api.Event:
		return words(flat(x.Task), flat(x.Port))
	case api.Trail:
		return words(flat(x.Kind), flat(x.Task), flat(x.Port), flat(x.Id))
	case api.File:
		return words(flat(x.Name), flat(len(x.Data)), flat(x.Synced))
	case api.Flight:
		return words(flat(x.From), flat(x.To), flat(len(x.Data)))
	case api.Op:
		return words(flat(x.Kind), flat(x.A), flat(x.B), flat(len(x.Keep)))
	}
	return ""
}

func words(all ...string) string { return "(" + strings.Join(all, " ") + ")" }
