package wire

import (
	"eddy/api"
	"eddy/number"
	"eddy/value"
)

func appendWord(b []byte, w uint32) []byte {
	for range wordBytes {
		b = append(b, byte(w))
		w >>= byteBits
	}
	return b
}

func appendKey(b []byte, key string) []byte {
	return append(number.Append(b, len(key)), key...)
}

func appendValue(b []byte, v api.Value) []byte {
	return append(b, value.Encode(v)...)
}

// appendList lays a list behind b, each item as put lays it.
func appendList[T any](b []byte, items []T, put func([]byte, T) []byte) []byte {
	b = number.Append(b, len(items))
	for _, item := range items {
		b = put(b, item)
	}
	return b
}

func appendRecord(b []byte, r api.Record) []byte {
	b = appendKey(b, r.Key)
	b = appendValue(b, r.Val)
	return appendList(b, r.Loops, number.Append)
}

func appendRecords(b []byte, records []api.Record) []byte {
	return appendList(b, records, appendRecord)
}

func appendCell(b []byte, c api.Cell) []byte {
	return appendList(appendKey(b, c.Key), c.Vals, appendValue)
}

func appendState(b []byte, s api.State) []byte {
	return appendList(number.Append(b, s.Num), s.Cells, appendCell)
}

func appendDelta(b []byte, d api.Delta) []byte {
	b = number.Append(b, d.Num)
	b = appendList(b, d.Set, appendCell)
	return appendList(b, d.Gone, appendKey)
}

func appendSegment(b []byte, s api.Segment) []byte {
	b = append(b, segmentByte)
	b = number.Append(b, s.Id)
	b = number.Append(b, s.Task)
	b = number.Append(b, s.Base)
	if s.Base == 0 {
		b = appendState(b, s.State)
	} else {
		b = appendWord(b, s.BaseSum)
		b = appendDelta(b, s.Delta)
	}
	b = appendList(b, s.Logs, appendRecords)
	return appendRecords(b, s.Pend)
}

func appendManifest(b []byte, m api.Manifest) []byte {
	b = append(b, manifestByte)
	b = number.Append(b, m.Id)
	b = appendWord(b, m.Sum)
	return appendList(b, m.Rows, appendFileRow)
}

func appendFileRow(b []byte, r api.Row) []byte {
	return appendWord(number.Append(b, r.Size), r.Check)
}

func appendRow(b []byte, r api.OutRow) []byte {
	b = append(b, rowByte)
	b = number.Append(b, r.At)
	return appendRecord(b, r.Rec)
}
