package cut_test

import (
	"math"
	"slices"
	"testing"

	"eddy/api"
	"eddy/cut"
)

// news wants an error of New, and no book beside it.
func news(t *testing.T, k kind, want api.Errno) {
	t.Helper()
	b, e := cut.New(k.mode, k.ports, k.back)
	if e != want || (b == nil) != (want != api.OK) {
		t.Errorf("P13.1: %v answers error %d and a book: %v, want error %d", k, e, b != nil, want)
	}
}

func TestNewModes(t *testing.T) {
	for _, mode := range []int{1, 2, 3} {
		news(t, kind{mode, 2, -1}, api.OK)
	}
	for _, mode := range []int{0, 4, -1, -2, 5, 130, math.MinInt, math.MaxInt} {
		news(t, kind{mode, 2, -1}, api.ErrCutMode)
	}
}

func TestNewPorts(t *testing.T) {
	for _, mode := range []int{1, 2, 3} {
		for ports := 1; ports <= 4; ports++ {
			news(t, kind{mode, ports, -1}, api.OK)
		}
		for _, ports := range []int{0, 5, -1, -4, 6, math.MinInt, math.MaxInt} {
			for _, back := range []int{-1, 0, 1, ports - 1} {
				news(t, kind{mode, ports, back}, api.ErrCutPorts)
			}
		}
	}
}

// TestNewBack: the last port may be the back port, the first one too, but not the only one.
func TestNewBack(t *testing.T) {
	for _, mode := range []int{1, 2, 3} {
		news(t, kind{mode, 1, 0}, api.ErrCutPorts)
		for ports := 2; ports <= 4; ports++ {
			for back := range ports {
				news(t, kind{mode, ports, back}, api.OK)
			}
		}
		for ports := 1; ports <= 4; ports++ {
			for _, back := range []int{-2, -3, ports, ports + 1, 5, math.MinInt, math.MaxInt} {
				news(t, kind{mode, ports, back}, api.ErrCutPorts)
			}
		}
	}
}

// TestNewModeFirst: no mode is told ahead of numbers of ports that may not be.
func TestNewModeFirst(t *testing.T) {
	for _, mode := range []int{0, 4, -1} {
		for _, k := range []kind{{mode, 0, -1}, {mode, 5, -1}, {mode, 2, 2}, {mode, 2, -2}, {mode, 1, 0}} {
			news(t, k, api.ErrCutMode)
		}
	}
}

// TestNewAll: the kinds that may be are told one by one.
func TestNewAll(t *testing.T) {
	fit := []kind{{ports: 1, back: -1}, {ports: 2, back: -1}, {ports: 2, back: 0}, {ports: 2, back: 1}, {ports: 3, back: -1}, {ports: 3, back: 0}, {ports: 3, back: 1},
		{ports: 3, back: 2}, {ports: 4, back: -1}, {ports: 4, back: 0}, {ports: 4, back: 1}, {ports: 4, back: 2}, {ports: 4, back: 3}}
	for mode := -2; mode <= 6; mode++ {
		for ports := -3; ports <= 8; ports++ {
			for back := -4; back <= 9; back++ {
				want := api.OK
				if !slices.Contains(fit, kind{ports: ports, back: back}) {
					want = api.ErrCutPorts
				}
				if mode != 1 && mode != 2 && mode != 3 {
					want = api.ErrCutMode
				}
				news(t, kind{mode, ports, back}, want)
			}
		}
	}
}

// TestANewBook: now is 0, no port is held, nothing is copied, recorded or done.
func TestANewBook(t *testing.T) {
	for _, k := range kinds(api.MaxPorts) {
		b := k.open(t)
		if id, p, ok := b.Part(); b.Now() != 0 || id != 0 || ok || partTold(answer{Id: id, Part: p, Ok: ok}) != "none" {
			t.Errorf("P13.5, P13.6: %v: a new book has a part, or now is %d", k, b.Now())
		}
		for port := range k.ports {
			if b.Held(port) || b.Took(port, rec("x")) != api.OK {
				t.Errorf("P13.2, P13.3: %v: port %d of a new book is held", k, port)
			}
		}
		if b.Now() != 0 {
			t.Errorf("P13.6: %v: behind records now is %d", k, b.Now())
		}
	}
}
