package stage

import "eddy/api"

// Which sides of a join are there, as a cell's first value tells it: a bit a side.
const (
	leftThere = 1 << iota
	rightThere
	bothThere = leftThere | rightThere
)

// sides: the last value of each side of a join, by port; none where a side isn't there.
type sides struct {
	there int64
	vals  [2]api.Value
}

// sidesOf reads the values of a cell; of no values, no side is there.
func sidesOf(vals []api.Value) sides {
	if len(vals) == 0 {
		return sides{}
	}
	s := sides{there: vals[0].Int}
	rest := vals[1:]
	for port := range s.vals {
		if s.has(port) {
			s.vals[port], rest = rest[0], rest[1:]
		}
	}
	return s
}

func (s *sides) has(port int) bool { return s.there&(leftThere<<port) != 0 }

// lay makes a value the last one of a side.
func (s *sides) lay(port int, v api.Value) {
	s.there |= leftThere << port
	s.vals[port] = v
}

// cell writes the values of the cell.
func (s *sides) cell() []api.Value {
	vals := []api.Value{{Kind: api.Int, Int: s.there}}
	for port, v := range s.vals {
		if s.has(port) {
			vals = append(vals, v)
		}
	}
	return vals
}
