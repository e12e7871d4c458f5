package vault

import (
	"errors"
	"iter"
	"slices"

	"eddy/api"
)

// complete goes through the complete shots among the disk's files, the newest first; it may be left at any place.
func (v *Vault) complete(files []api.File) iter.Seq[stored] {
	return func(yield func(stored) bool) {
		// Files come by name, so manifests come by number.
		for _, f := range slices.Backward(files) {
			id, mine := shotOf(f.Name)
			if !mine || !isManifest(f.Name) {
				continue
			}
			s, err := v.read(id)
			// Files are told of a machine that is down too: there the first reading ends the search.
			if errors.Is(err, api.ErrDiskDown) {
				return
			}
			if err == nil && !yield(s) {
				return
			}
		}
	}
}

// sure gives the newest sure shots, the newest first, at most so many.
func (v *Vault) sure(most int) []stored {
	files := v.disk.Files()
	isUnsure := func(name string) bool {
		return slices.ContainsFunc(files, func(f api.File) bool { return f.Name == name && f.Synced < len(f.Data) })
	}
	var all []stored
	for s := range v.complete(files) {
		if slices.ContainsFunc(s.files, isUnsure) {
			continue
		}
		if all = append(all, s); len(all) == most {
			break
		}
	}
	return all
}
