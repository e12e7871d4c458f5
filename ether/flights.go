package ether

import "eddy/api"

func (e *Ether) isMachine(n int) bool { return n >= 0 && n < e.machines }

func (e *Ether) has(i int) bool { return i >= 0 && i < len(e.flights) }

// lay puts a packet like this one at the end, if there is room.
func (e *Ether) lay(f api.Flight) api.Errno {
	if len(e.flights) >= api.MaxFlights {
		return api.ErrEtherFull
	}
	e.flights = append(e.flights, copied(f))
	return api.OK
}

// cut takes packet number i out. The ones ahead of it get no spare room: so those behind it go to a new list with them, and none is written over.
func (e *Ether) cut(i int) {
	// Behind the last packet nothing moves, and the old list stays below: it must not hold bytes that are gone.
	e.flights[i] = api.Flight{}
	e.flights = append(e.flights[:i:i], e.flights[i+1:]...)
}

// copied gives the same packet with bytes of its own: who holds the one can't reach into the other.
func copied(f api.Flight) api.Flight {
	data := make([]byte, len(f.Data))
	copy(data, f.Data)
	f.Data = data
	return f
}
