package outlet

import (
	"eddy/api"
	"eddy/frame"
	"eddy/wire"
)

// Scan reads a log's bytes: its records in order, and how many bytes they take.
func Scan(data []byte) ([]api.Record, int) {
	var records []api.Record
	size := 0
	for {
		one, row, ok := first(data[size:])
		if !ok || row.At != len(records) {
			return records, size
		}
		records = append(records, row.Rec)
		size += len(one)
	}
}

// first cuts the frame at the beginning of a log out of it, so that nobody can write behind its end, and reads the row in it.
func first(log []byte) ([]byte, api.OutRow, bool) {
	body, size, e := frame.Unwrap(log)
	if e != api.OK {
		return nil, api.OutRow{}, false
	}
	row, e := wire.GetRow(body)
	return log[:size:size], row, e == api.OK
}

// logOf writes the piece of a log that holds records, the first of which has the number from.
func logOf(from int, l []api.Record) ([]byte, api.Errno) {
	var log []byte
	for k, r := range l {
		one, e := framed(api.OutRow{At: from + k, Rec: r})
		if e != api.OK {
			return nil, e
		}
		log = append(log, one...)
	}
	return log, api.OK
}

func framed(row api.OutRow) ([]byte, api.Errno) {
	body, e := wire.PutRow(row)
	if e != api.OK {
		return nil, e
	}
	return frame.Wrap(body)
}
