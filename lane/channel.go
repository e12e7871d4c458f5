package lane

import (
	"eddy/api"
	"eddy/fresh"
)

func isRecord(x api.Item) bool { return x.Mark == 0 }

// copied gives an item in memory of its own; a marker leaves its record behind.
func copied(x api.Item) api.Item {
	if isRecord(x) {
		return api.Item{Rec: fresh.Record(x.Rec)}
	}
	return api.Item{Mark: x.Mark}
}

func (l *Lane) shut() bool { return l.items == nil }

func (l *Lane) count() int {
	if l.next != nil {
		return len(l.items) + 1
	}
	return len(l.items)
}

// refusal tells why an item can't be laid now.
func (l *Lane) refusal(x api.Item) api.Errno {
	switch {
	case l.shut():
		return api.ErrLaneShut
	case x.Mark < 0:
		return api.ErrLaneItem
	case isRecord(x) && l.Full():
		return api.ErrLaneFull
	}
	return api.OK
}

// lay sends an item that is the lane's own. The lane's room isn't asked here: the channel is as long as it must be.
func (l *Lane) lay(x api.Item) {
	if isRecord(x) {
		l.records++
	}
	for {
		select {
		case l.items <- x:
			return
		default:
			l.items = longer(l.items)
		}
	}
}

// longer moves what is in a channel into one of more than twice its length, so that many items are not moved often.
func longer(old chan api.Item) chan api.Item {
	items := make(chan api.Item, 2*cap(old)+1)
	close(old)
	for x := range old {
		items <- x
	}
	return items
}

// receive takes the oldest item out and leaves the count of the records to the caller.
func (l *Lane) receive() (api.Item, bool) {
	if l.next != nil {
		x := *l.next
		l.next = nil
		return x, true
	}
	select {
	case x := <-l.items:
		return x, true
	default:
		return api.Item{}, false
	}
}
