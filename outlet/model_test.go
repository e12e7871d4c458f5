package outlet_test

import (
	"bytes"
	"encoding/binary"

	"eddy/api"
	"eddy/disk"
	"eddy/wire"
)

// A model is a second, plain reading of the chapter. It keeps the log as bytes, and for each record where its frame ends and whether it is sure; records are the same if their bytes are.
type model struct {
	disk *disk.Disk
	name string
	log  []byte
	rows []modelRow
}

type modelRow struct {
	end  int
	sure bool
}

// modelScan reads a log: what is read must be what would be written.
func modelScan(data []byte) ([]api.Record, int) {
	var all []api.Record
	at := 0
	for len(data)-at >= 4 {
		end := at + 4 + int(binary.LittleEndian.Uint16(data[at:]))
		if end+4 > len(data) || end-at-4 > 32768 {
			break
		}
		body := data[at+4 : end]
		if len(body) == 0 || !bytes.Equal(frameOf(body), data[at:end+4]) {
			break
		}
		number, width := binary.Uvarint(body[1:])
		if width <= 0 || number != uint64(len(all)) {
			break
		}
		r, e := wire.GetRecord(body[1+width:])
		if e != api.OK || !bytes.Equal(rowOf(len(all), r), body) {
			break
		}
		all, at = append(all, r), end+4
	}
	return all, at
}

// modelOpen opens a model; it makes the calls of the disk that an outlet must make.
func modelOpen(d *disk.Disk, sink int) (*model, error) {
	if sink < 0 || sink > 11 {
		return nil, &api.Lost{Err: api.ErrOutSink}
	}
	m := &model{disk: d, name: nameOf(sink)}
	data, e := d.Read(m.name)
	if e == api.ErrDiskNone {
		return m, nil
	} else if e != api.OK {
		return nil, m.told(e)
	}
	l, size := modelScan(data)
	m.lay(l)
	if size != len(data) {
		if e := d.Trim(m.name, size); e != api.OK {
			return nil, m.told(e)
		}
	}
	if f := fileOf(d, sink); f.Synced != size {
		if e := d.Sync(m.name); e != api.OK {
			return nil, m.told(e)
		}
	}
	m.allSure()
	return m, nil
}

func (m *model) told(e api.Errno) error { return &api.Lost{Name: m.name, Err: e} }

func (m *model) lay(l []api.Record) {
	for _, r := range l {
		m.log = append(m.log, frameOf(rowOf(len(m.rows), r))...)
		m.rows = append(m.rows, modelRow{end: len(m.log)})
	}
}

func (m *model) allSure() {
	for k := range m.rows {
		m.rows[k].sure = true
	}
}

func (m *model) Len() int {
	count := 0
	for _, r := range m.rows {
		if r.sure {
			count++
		}
	}
	return count
}

func (m *model) Records() []api.Record {
	all, _ := modelScan(m.log)
	return all[:m.Len()]
}

// frameAt gives the frame of the record with a number.
func (m *model) frameAt(number int) []byte {
	if number == 0 {
		return m.log[:m.rows[0].end]
	}
	return m.log[m.rows[number-1].end:m.rows[number].end]
}

func (m *model) Commit(from int, l []api.Record) error {
	if from < 0 || from > len(m.rows) {
		return m.told(api.ErrOutGap)
	}
	var fresh []api.Record
	for k, r := range l {
		_, e := wire.PutRecord(r)
		switch {
		case from+k >= len(m.rows) && e != api.OK:
			return m.told(e)
		case from+k >= len(m.rows):
			fresh = append(fresh, r)
		case e != api.OK || !bytes.Equal(frameOf(rowOf(from+k, r)), m.frameAt(from+k)):
			return m.told(api.ErrOutClash)
		}
	}
	if len(fresh) > 0 {
		if e := m.disk.Append(m.name, logOf(len(m.rows), fresh)); e != api.OK {
			return m.told(e)
		}
		m.lay(fresh)
	}
	if m.Len() < len(m.rows) {
		if e := m.disk.Sync(m.name); e != api.OK {
			return m.told(e)
		}
		m.allSure()
	}
	return nil
}
