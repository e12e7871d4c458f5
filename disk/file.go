package disk

import (
	"bytes"
	"maps"
	"slices"

	"eddy/api"
)

// A label is a file's name with zero bytes behind it. No name has such a byte: so labels are as different as their names, and come in the same order.
type label [12]byte

// labelOf tells also whether the name is one of a file.
func labelOf(name string) (label, bool) {
	var l label
	if name == "" || len(name) > len(l) {
		return label{}, false
	}
	for k := range len(name) {
		if !inNames(name[k]) {
			return label{}, false
		}
		l[k] = name[k]
	}
	return l, true
}

func inNames(b byte) bool { return b >= 'a' && b <= 'z' || b >= '0' && b <= '9' || b == '-' }

func (l label) name() string { return string(bytes.TrimRight(l[:], "\x00")) }

func (l label) compare(other label) int { return bytes.Compare(l[:], other[:]) }

// order gives the labels of all files in the files' order.
func (d *Disk) order() []label { return slices.SortedFunc(maps.Keys(d.files), label.compare) }

// A file's bytes are sure from the first on, the others are behind them.
type file struct {
	data []byte
	sure int
}

// fits tells whether a disk can have a file with these bytes.
func fits(f api.File) bool {
	return len(f.Data) <= api.MaxFile && f.Synced >= 0 && f.Synced <= len(f.Data)
}

// cut leaves the first bytes, size of them at most, and doesn't keep the others as spare room.
func (f *file) cut(size int) {
	if size < len(f.data) {
		f.data = bytes.Clone(f.data[:size])
	}
	f.sure = min(f.sure, len(f.data))
}

// survive leaves what is sure and so many bytes of what isn't, if there are so many; all of them are sure then.
func (f *file) survive(unsure int) {
	left := len(f.data) - f.sure
	f.cut(f.sure + min(max(unsure, 0), left))
	f.sure = len(f.data)
}
