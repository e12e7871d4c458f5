package ether_test

import (
	"testing"

	"eddy/api"
	"eddy/ether"
)

func TestFirstExample(t *testing.T) {
	e := made(3)
	want(t, "Send(0, 1, 1)", e.Send(0, 1, []byte{1}), api.OK)
	want(t, "Send(2, 0)", e.Send(2, 0, nil), api.OK)
	for _, c := range [][2]int{{1, 1}, {3, 0}, {0, -1}} {
		want(t, "Send of a wrong machine", e.Send(c[0], c[1], []byte{1}), api.ErrEtherNode)
	}
	want(t, "Copy(0)", e.Copy(0), api.OK)
	f, ok := e.Deliver(1)
	want(t, "Deliver(1)", tell(f), "2>0:")
	want(t, "Deliver(1)", ok, true)
	want(t, "List", tellIn(e), "0>1:01 0>1:01")
	want(t, "Flip(1, 7)", e.Flip(1, 7), true)
	f, ok = e.Deliver(1)
	want(t, "Deliver(1)", tell(f), "0>1:81")
	want(t, "Deliver(1)", ok, true)
	want(t, "Flip(0, 8)", e.Flip(0, 8), false)
	want(t, "Drop(1)", e.Drop(1), false)
	want(t, "Drop(0)", e.Drop(0), true)
	want(t, "List", len(e.List()), 0)
}

func TestSecondExample(t *testing.T) {
	for _, machines := range []int{0, 9} {
		e, n := ether.New(machines)
		want(t, "New", n, api.ErrEtherNew)
		want(t, "New", e, nil)
	}
	e := made(1)
	for from := -1; from <= 2; from++ {
		for to := -1; to <= 2; to++ {
			want(t, "Send with one machine", e.Send(from, to, []byte{1}), api.ErrEtherNode)
		}
	}
}

func TestThirdExample(t *testing.T) {
	e := filled(256)
	want(t, "Send", e.Send(0, 1, nil), api.ErrEtherFull)
	want(t, "Copy(0)", e.Copy(0), api.ErrEtherFull)
	want(t, "Copy(256)", e.Copy(256), api.ErrEtherNone)
	want(t, "Drop(3)", e.Drop(3), true)
	want(t, "Send behind a Drop", e.Send(0, 1, nil), api.OK)
	want(t, "Send", e.Send(0, 1, nil), api.ErrEtherFull)
	want(t, "Drop(4)", e.Drop(4), true)
	want(t, "Copy(0) behind a Drop", e.Copy(0), api.OK)
	want(t, "Copy(0)", e.Copy(0), api.ErrEtherFull)
}
