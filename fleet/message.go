package fleet

import (
	"eddy/api"
	"eddy/number"
	"eddy/wire"
)

// The bytes with which messages begin.
const (
	markerByte = 77
	recordByte = 82
)

// handOn lets an end put an item, as a message.
func handOn(x api.Item, put func(message []byte) api.Errno) {
	if x.Mark > 0 {
		put(number.Append([]byte{markerByte}, x.Mark))
		return
	}
	// What a task sends is a valid record: wire refuses none.
	b, _ := wire.PutRecord(x.Rec)
	put(append([]byte{recordByte}, b...))
}

// itemOf reads a message; false: it is neither a marker nor a record.
func itemOf(message []byte) (api.Item, bool) {
	if len(message) == 0 {
		return api.Item{}, false
	}
	switch kind, body := message[0], message[1:]; kind {
	case markerByte:
		return markerOf(body)
	case recordByte:
		rec, e := wire.GetRecord(body)
		return api.Item{Rec: rec}, e == api.OK
	}
	return api.Item{}, false
}

func markerOf(body []byte) (api.Item, bool) {
	id, size, e := number.Lead(body, api.MaxId)
	if e != api.OK || id == 0 || size < len(body) {
		return api.Item{}, false
	}
	return api.Item{Mark: id}, true
}
